import Derived.Test.YtlabdbfmfejkaaaDoorRePP
import Derived.Test.YtlabdbfmfejkaaaDoorPbY0P
import Derived.Deep.CutRange
import Derived.Deep.CutBlock
import Derived.BigQuiet
import Derived.Test.YtlabdbfmfejkaaaDoorMkDP
import Derived.Test.YtlabdbfmfejkaaaDoorReIP
import Derived.Test.YtlabdbfmfejkaaaDoorPick
/- Both paints, painted alike; a reacher beside both. -/
/- A reacher ends, reckoned. No program's text is in it. -/
/- A reacher beside both heaps and paints; ReachEnds. -/
/- The law's own hand: whether lists of IDs, rows are alike. -/
/- What a reacher has told when it is through, reckoned. No program's text is in it. -/
/- Rows that were told and stay; a reacher begun anew. -/
/- Begun anew, a reacher tells the same; with a greater bound, less. -/
namespace Go.Proofs.YtlabdbfmfejkaaaDoor
open Go.ChangeShapes Go.WideShapes Go.ChangeAt Go.RowKit Go.Deep

/-- How an object was marked. -/
structure Way where
  ser : Nat
  rank : Int
  xn : Int
  xs : Nat
  scan : Bool
def cWay (s : Way) : List Value := [.int .u64 (s.ser : Int), .int .i64 s.rank, .int .i64 s.xn, .int .u64 (s.xs : Int), .bool s.scan]
def Way.Ok (s : Way) : Prop := s.ser < 18446744073709551616 ∧ s.xs < 18446744073709551616
theorem list5w {α : Type} {l : List α} (h : l.length = 5) : ∃ a b c d e, l = [a, b, c, d, e] := by
  match l, h with
  | [a, b, c, d, e], _ => exact ⟨a, b, c, d, e, rfl⟩
theorem ews_way {H : Type} {enc : TypeId × Value → H} {W : World} : ∀ n cs (y : DataW H × List MemPlace), DataW.trod enc Tryd.prog W 0 (fun _ => true) true n 114 cs = some y → ∃ x : Way, cs = cWay x ∧ x.Ok := by
  intro n cs y h
  obtain ⟨hlen, k, hf⟩ := trod_fields 5 Tryd.underlying114 (by kernel_rfl) h
  obtain ⟨v0, v1, v2, v3, v4, rfl⟩ := list5w hlen
  obtain ⟨y0, g0⟩ := hf 0 32 0 1 rfl (by kernel_rfl)
  obtain ⟨y1, g1⟩ := hf 1 3 1 1 rfl (by kernel_rfl)
  obtain ⟨y3, g3⟩ := hf 2 47 2 2 rfl (by kernel_rfl)
  obtain ⟨y5, g5⟩ := hf 3 4 4 1 rfl (by kernel_rfl)
  obtain ⟨_, k3, hf3⟩ := trod_fields 2 Tryd.underlying47 (by kernel_rfl) g3
  obtain ⟨y30, g30⟩ := hf3 0 3 0 1 rfl (by kernel_rfl)
  obtain ⟨y31, g31⟩ := hf3 1 32 1 1 rfl (by kernel_rfl)
  obtain ⟨z0, e0, b0⟩ := trod_u64 g0
  obtain ⟨z1, e1, _, _⟩ := DataW.trod_int Tryd.underlying3 g1
  obtain ⟨z3, e3, _, _⟩ := DataW.trod_int Tryd.underlying3 g30
  obtain ⟨z4, e4, b4⟩ := trod_u64 g31
  obtain ⟨z5, e5, _⟩ := DataW.trod_bool Tryd.underlying4 g5
  simp only [List.drop_succ_cons, List.drop_zero, List.take_succ_cons, List.take_zero, List.cons.injEq, and_true] at e0 e1 e3 e4 e5
  subst e0 e1 e3 e4 e5
  exact ⟨⟨z0, z1, z3, z4, z5⟩, rfl, b0, b4⟩
theorem WS.way {w : World} {ao : Option Addr} {n cap : Nat} {xs : List Way} (h : WS w (.slice ao n cap) 5 cWay xs) (i : Nat) (hi : i < xs.length) : ∃ b off, ao = some ⟨b, off, none⟩ ∧ b < w.heap.size ∧
    w.cell? ⟨b, off + i * 5, none⟩ = some (.int .u64 (xs[i].ser : Int)) ∧ w.cell? ⟨b, off + i * 5 + 1, none⟩ = some (.int .i64 xs[i].rank) ∧ w.cell? ⟨b, off + i * 5 + 2, none⟩ = some (.int .i64 xs[i].xn) ∧ w.cell? ⟨b, off + i * 5 + 3, none⟩ = some (.int .u64 (xs[i].xs : Int)) ∧ w.cell? ⟨b, off + i * 5 + 4, none⟩ = some (.bool xs[i].scan) := by
  obtain ⟨b, off, h1, h2, h3⟩ := h.at i hi
  exact ⟨b, off, h1, h2, h3 0 _ rfl, h3 1 _ rfl, h3 2 _ rfl, h3 3 _ rfl, h3 4 _ rfl⟩

set_option maxRecDepth 20000 in
set_option maxHeartbeats 4000000 in
theorem painted_any {w0 w : World} {hb rb : Nat} {h : HSt} {vl : Value} {xs : List Way} (y : H2 w0 w0.heap.size w hb rb h h (fun _ => False)) (hl : WS w0 vl 5 cWay xs) (hR : ∀ y ∈ xs, y.Ok) (hla : h.last ≤ 30 ∨ h.last ≤ 60) :
    Calls Tryd.prog 23 #[.pointer (some ⟨hb, 0, none⟩), .pointer (some ⟨rb, 0, none⟩), vl] w fun e w' => ∃ pb qb p, e = .returned (.tuple #[.pointer (some ⟨pb, 0, none⟩), .pointer (some ⟨qb, 0, none⟩)]) ∧ P4 w0 w0.heap.size w' hb rb pb qb h h p p (fun _ => False) ∧ PI p 10000 := by
  obtain ⟨ao, cap, rfl, _, _⟩ := hl.slice
  have HWS : Hid _ := hidden hl
  have HOKS : Hid _ := hidden hR
  have hNw := pnew_ok hb w0.heap.size 4 (by omega) (by omega) w y.le
  have hNq := fun W (hB : w0.heap.size ≤ W.heap.size) => rnewp_any 4 (by omega) (by omega) rb w0.heap.size W hB
  have HY : Hid _ := hidden y
  have HLA : Hid (h.last ≤ 60) := by
    have e : h.last ≤ 60 := by omega
    exact e
  have hLE := y.le
  clear y hl hR hla
  go_enter Tryd.func23, Tryd.ntmps23
  go_wp2_with fail
  refine hNw.mono ?_
  rintro e w3 ⟨pb, G, rfl, pn, hG, b3⟩
  clear hNw
  go_wp2_with fail
  refine (hNq _ (Nat.le_trans hLE b3.size)).mono ?_
  rintro e w4 ⟨rfl, q4, b4⟩
  have HZ : Hid _ := hidden (HY.out.p4 pn hG b3 q4 b4)
  have HK0 : Hid (PI (PSt.new 4) 0) := ⟨List.nodup_nil, (fun e he => (by cases he)), Nat.zero_le _, Nat.zero_le _⟩
  clear hNq pn hG b3 q4 b4 HY
  generalize w3.heap.size = qb at *
  go_wp2
  go_loopw [11, 12] (fun t _ wr => ∃ (i : Nat) (p : PSt), i ≤ 100 ∧ t = .int .i64 (i : Int) ∧ PI p (i * 20) ∧ P4 w0 w0.heap.size wr hb rb pb qb h h p p (fun _ => False)) (fun t _ _ => 100 - (intOf t).toNat)
  case atStart => exact ⟨0, _, by omega, rfl, HK0.out, HZ.out⟩
  case round =>
    clear HZ HK0
    obtain ⟨i, p, hi, rfl, K, z⟩ := hrel
    by_cases hlt : i < xs.length ∧ i < 100
    · obtain ⟨hl1, hl2⟩ := hlt
      have HQ0 : Hid (∀ W, Below w0.heap.size w0 W → ∃ b off, ao = some ⟨b, off, none⟩ ∧ b < W.heap.size ∧ W.cell? ⟨b, off + i * 5, none⟩ = some (.int .u64 (xs[i].ser : Int)) ∧ W.cell? ⟨b, off + i * 5 + 1, none⟩ = some (.int .i64 xs[i].rank) ∧ W.cell? ⟨b, off + i * 5 + 2, none⟩ = some (.int .i64 xs[i].xn) ∧ W.cell? ⟨b, off + i * 5 + 3, none⟩ = some (.int .u64 (xs[i].xs : Int)) ∧ W.cell? ⟨b, off + i * 5 + 4, none⟩ = some (.bool xs[i].scan)) := fun W hB => (HWS.out.below hB).way i hl1
      have hokx := HOKS.out _ (List.getElem_mem hl1)
      have hlti : (i : Int) < (xs.length : Int) := by omega
      have hlt100 : (i : Int) < 100 := by omega
      generalize xs[i] = st at *
      obtain ⟨ser, rank, xn, xs', scan⟩ := st
      simp only at HQ0
      obtain ⟨b, off, rfl, hbw, q0, q1, q2, q3, q4⟩ := HQ0.out _ z.bel
      have HQ : Hid (∀ W, Below w0.heap.size w0 W → b < W.heap.size ∧ W.cell? ⟨b, off + i * 5 + 1, none⟩ = some (.int .i64 rank) ∧ W.cell? ⟨b, off + i * 5 + 2, none⟩ = some (.int .i64 xn) ∧ W.cell? ⟨b, off + i * 5 + 3, none⟩ = some (.int .u64 (xs' : Int)) ∧ W.cell? ⟨b, off + i * 5 + 4, none⟩ = some (.bool scan)) := fun W hB => by
        obtain ⟨b', off', e, h1, _, h3, h4, h5, h6⟩ := HQ0.out W hB
        cases e
        exact ⟨h1, h3, h4, h5, h6⟩
      have hser := hokx.1
      simp only at hser
      have HL : Hid (i + 1 ≤ 100) := hl2
      have hc := z.last
      have hrl := cell_lt hc
      obtain ⟨N, hN⟩ : ∃ N, N = h.last := ⟨_, rfl⟩
      rw [← hN] at hc
      have hN60 : N ≤ 60 := by have := HLA.out; omega
      obtain ⟨q, hq⟩ : ∃ q, q = ser % (N + 1) := ⟨_, rfl⟩
      obtain ⟨D, hDN⟩ : ∃ D, D = N + 1 := ⟨_, rfl⟩
      have hadd : (N : Int) + 1 = (D : Int) := by omega
      have hrem : (ser : Int).tmod (D : Int) = (q : Int) := by rw [hq, hDN]; rfl
      have hrem2 : (ser : Int) % (D : Int) = (q : Int) := by rw [hq, hDN]; rfl
      have hq64 : q < 18446744073709551616 := by have := Nat.mod_le ser (N + 1); omega
      have hne : ((D : Int) == 0) = false := by rw [beq_eq_false_iff_ne]; omega
      have hne2 : ¬ (D : Int) = 0 := by omega
      have hwA : IntKind.u64.wrap ((N : Int) + 1) = (D : Int) := by rw [IntKind.wrap_u64]; omega
      have hwB : ((N : Int) + 1) % 18446744073709551616 = (D : Int) := by omega
      have HQ64 : Hid (q < 18446744073709551616) := hidden hq64
      have HK : Hid _ := hidden K
      have HZ1 : Hid _ := hidden z
      have HKB : Hid (i * 20 + 20 < 1000000) := by
        have e : i * 20 + 20 < 1000000 := by omega
        exact e
      clear hq64 hser hokx hl1 hl2 K z hq hDN hadd hi hN hN60
      go_upto_region 8 with fail
      go_cut [12] from 34 to 46 (fun t wc => t = .int .u64 (q : Int) ∧ Below wr.heap.size wr wc)
      case first =>
        clear HQ0 HQ HL HQ64 HK HZ1 HKB
        have P0 : ∀ k, (wr.drewN k).cell? ⟨b, off + i * 5, none⟩ = some (.int .u64 (ser : Int)) := fun _ => q0
        have P1 : ∀ k, (wr.drewN k).cell? ⟨rb, 2, none⟩ = some (.int .u64 (N : Int)) := fun _ => hc
        go_quiet (fail)
        go_wp2
        go_meet
        exact ⟨rfl, below_drewN0 _ _⟩
      case rest =>
        obtain ⟨rfl, bc⟩ := hcut
        have z1 := HZ1.out.read bc
        clear q0 q1 q2 q3 q4 hbw hc hrl bc HZ1 HQ0 hrem hrem2 hwA hwB hne hne2
        obtain ⟨hbw, q1, q2, q3, q4⟩ := HQ.out _ z1.bel
        have hS1 := z1.shade 1 q rank
        clear z1
        go_wp2_with fail
        refine hS1.mono ?_
        rintro e w5 ⟨rfl, z5, k5⟩
        have HZ5 : Hid _ := hidden z5
        clear hS1 q1 q2 q3 q4 hbw k5
        obtain ⟨hbw, q1, q2, q3, q4⟩ := HQ.out _ z5.bel
        have hS2 := z5.rshade HK.out (by have := HKB.out; omega) 1 q rank
        have hK6 := HK.out.shade h (1, q) rank
        generalize p.shade h (1, q) rank = p6 at *
        clear z5 HZ5 HK
        go_wp2_with fail
        refine hS2.mono ?_
        rintro e w6 ⟨rfl, z6, k6⟩
        clear hS2 q1 q2 q3 q4 hbw k6
        obtain ⟨hbw, q1, q2, q3, q4⟩ := HQ.out _ z6.bel
        have hS3 := fun W (hB : Below w6.heap.size w6 W) => (z6.read hB).shade xn xs' rank
        have HK6 : Hid _ := hidden hK6
        have bd6 := below_drew0 w6
        have HZ6 : Hid _ := hidden z6
        clear z6 hK6
        go_upto_region 11 with fail
        go_cut [] from 65 to 76 (fun wc => P4 w0 w0.heap.size wc hb rb pb qb h h (p6.shade h (xn, xs') rank) p6 (fun _ => False))
        case first =>
          go_region_with (go_at_call 13; refine (hS3 _ bd6).mono ?_; rintro e w7 ⟨rfl, z7, k7⟩; clear k7)
          all_goals
            go_wp2
            go_meet
            exact z7
        case rest =>
          have z7 := hcut
          clear hS3 q1 q2 q3 q4 hbw bd6 HZ6 hcut
          obtain ⟨hbw, q1, q2, q3, q4⟩ := HQ.out _ z7.bel
          have bd7 := below_drew0 wc
          have hS4 := (z7.read bd7).rshade HK6.out (by have := HKB.out; omega) xn xs' rank
          have hK8 := HK6.out.shade h (xn, xs') rank
          generalize p6.shade h (xn, xs') rank = p8 at *
          have HK8 : Hid _ := hidden hK8
          clear z7 hK8 HK6 bd7
          go_upto_region 12 with fail
          go_cut [] from 77 to 88 (fun wc => P4 w0 w0.heap.size wc hb rb pb qb h h p8 p8 (fun _ => False))
          case first =>
            go_region_with (go_at_call 57; refine hS4.mono ?_; rintro e w8 ⟨rfl, z8, k8⟩; clear k8)
            all_goals
              go_wp2
              go_meet
              exact z8
          case rest =>
            have z8 := hcut
            clear hS4 q1 q2 q3 q4 hbw hcut
            obtain ⟨hbw, q1, q2, q3, q4⟩ := HQ.out _ z8.bel
            cases scan with
            | false =>
              have HE : Hid _ := hidden z8
              clear z8 q1 q2 q3
              go_wp2
              go_roundw
              case rel => exact ⟨i + 1, p8, HL.out, by go_num, HK8.out.mono (by omega), HE.out⟩
              case measure => have := HL.out; simp [intOf]; omega
            | true =>
              have hSc := z8.scan q HQ64.out
              have HOK8 : Hid h.Ok := z8.okh
              clear z8 q1 q2 q3
              go_wp2_with fail
              refine hSc.mono ?_
              rintro e w9 ⟨rfl, z9, k9⟩
              have hSr := z9.rscan HK8.out (by have := HKB.out; omega) q
              have hKA := HK8.out.scan HOK8.out q
              generalize p8.scan h q = p9 at *
              generalize scanR h p8 q = sb at *
              have HKA : Hid _ := hidden hKA
              clear hSc z9 k9 q4 hbw hKA
              go_wp2_with fail
              refine hSr.mono ?_
              rintro e wa ⟨rfl, za, ka⟩
              have HE : Hid _ := hidden za
              clear hSr za ka
              go_wp2
              go_roundw
              case rel => exact ⟨i + 1, p9, HL.out, by go_num, HKA.out.mono (by omega), HE.out⟩
              case measure => have := HL.out; simp [intOf]; omega
    · have hex : (¬ (i : Int) < (xs.length : Int)) ∨ ((i : Int) < (xs.length : Int) ∧ ¬ (i : Int) < 100) := by omega
      have HE : Hid _ := hidden z
      have HKE : Hid (PI p 10000) := K.mono (by omega)
      clear z K hlt
      rcases hex with hx | ⟨hx1, hx2⟩
      all_goals
        go_wp2
        go_ret2
        exact ⟨pb, qb, rfl, p, HE.out, HKE.out⟩
end Go.Proofs.YtlabdbfmfejkaaaDoor

namespace Go.Proofs.YtlabdbfmfejkaaaDoor
open Go.RowKit

theorem count_more {α : Type} {P Q : α → Bool} : ∀ {l : List α} (_ : ∀ x ∈ l, P x = true → Q x = true) {a : α} (_ : a ∈ l) (_ : Q a = true) (_ : P a = false), l.countP P + 1 ≤ l.countP Q
  | x :: l, h, a, ha, hq, hp => by
    have hm : l.countP P ≤ l.countP Q := List.countP_mono_left (fun y hy => h y (List.mem_cons_of_mem _ hy))
    rcases List.mem_cons.1 ha with rfl | ha
    · rw [List.countP_cons, List.countP_cons, hq, hp]
      simp
      omega
    · have ih := count_more (fun y hy => h y (List.mem_cons_of_mem _ hy)) ha hq hp
      rw [List.countP_cons, List.countP_cons]
      cases hx : P x with
      | true =>
        rw [h x (List.mem_cons_self ..) hx]
        simp
        omega
      | false => simp; omega
theorem nodup_len : ∀ (n : Nat) (l : List Nat), l.Nodup → (∀ x ∈ l, 1 ≤ x ∧ x ≤ n) → l.length ≤ n
  | 0, l, _, h => by
    cases l with
    | nil => exact Nat.le_refl _
    | cons a l => have := h a (by simp); omega
  | n + 1, l, hd, h => by
    have he := hd.erase (n + 1)
    have ih := nodup_len n (l.erase (n + 1)) he (fun x hx => by
      have h1 := (List.Nodup.mem_erase_iff hd).1 hx
      have h2 := h x h1.2
      omega)
    have hl := List.length_erase (a := n + 1) (l := l)
    split at hl <;> omega
/-- How many objects lie above. -/
def abN (cs : List Oc) (s : Nat) : Nat := cs.countP (fun o => decide (s < o.s))
theorem ab_some {cs : List Oc} {s : Nat} {o : Oc} (h : aboveC cs s = some o) : abN cs o.s + 1 ≤ abN cs s := by
  obtain ⟨h1, h2⟩ := above_mem h
  refine count_more (fun x _ hx => ?_) h1 (decide_eq_true h2) (decide_eq_false (Nat.lt_irrefl _))
  simp only [decide_eq_true_eq] at hx ⊢
  omega
/-- How much is left of a row. -/
def unL (n : Nat) (u : Und) : Nat := 1 + u.waits.length + (n - u.row.length)
def leftC (n : Nat) (h : HSt) (r : RSt) : Nat := abN h.cs r.place * (n + 2) + (match r.und with
  | none => 0
  | some u => unL n u)
/-- What a row keeps. -/
structure UI (u : Und) (n : Nat) : Prop where
  nd : u.row.Nodup
  rg : ∀ s ∈ u.row, 1 ≤ s ∧ s ≤ n
def RI (r : RSt) (n : Nat) : Prop := ∀ u, r.und = some u → UI u n
section
variable {h : HSt} {p : PSt} {t : Int} {u : Und} {n : Nat} {r : RSt}
theorem UI.put (H : UI u n) {s : Nat} (hs : 1 ≤ s ∧ s ≤ n) : UI (u.put s) n ∧ unL n (u.put s) = unL n u := by
  unfold Und.put
  split
  · exact ⟨H, rfl⟩
  · next hn =>
    have hnd : (u.row ++ [s]).Nodup := by
      rw [List.nodup_append]
      refine ⟨H.nd, by simp, fun a ha b hb => ?_⟩
      rw [List.mem_singleton] at hb
      subst hb
      exact fun e => hn (e ▸ ha)
    have hrg : ∀ x ∈ u.row ++ [s], 1 ≤ x ∧ x ≤ n := fun x hx => by
      rcases List.mem_append.1 hx with hx | hx
      · exact H.rg x hx
      · rw [List.mem_singleton] at hx
        subst hx
        exact hs
    refine ⟨⟨hnd, hrg⟩, ?_⟩
    have hl := nodup_len n _ hnd hrg
    simp only [List.length_append, List.length_singleton] at hl
    unfold unL
    simp only [List.length_append, List.length_singleton]
    omega
theorem UI.look (hin : ∀ k o, getC h.cs k = some o → 1 ≤ k ∧ k ≤ n) (H : UI u n) (x : Int × Nat) : UI (u.look h p t x) n ∧ unL n (u.look h p t x) = unL n u := by
  unfold Und.look
  split
  · split
    · next hs =>
      obtain ⟨o, ho⟩ := sus_there hs
      exact H.put (hin _ _ ho)
    · exact ⟨H, rfl⟩
  · split
    · exact ⟨⟨H.nd, H.rg⟩, rfl⟩
    · exact ⟨H, rfl⟩
theorem UI.all (hin : ∀ k o, getC h.cs k = some o → 1 ≤ k ∧ k ≤ n) (l : List (Int × Nat)) : ∀ {u : Und}, UI u n → UI (u.all h p t l) n ∧ unL n (u.all h p t l) = unL n u := by
  unfold Und.all
  induction l with
  | nil => intro u H; exact ⟨H, rfl⟩
  | cons x l ih =>
    intro u H
    rw [List.foldl_cons]
    have h1 := H.look hin (p := p) (t := t) x
    have h2 := ih h1.1
    exact ⟨h2.1, h2.2.trans h1.2⟩
theorem step_leftC (hin : ∀ k o, getC h.cs k = some o → 1 ≤ k ∧ k ≤ n) (ok : h.Ok) (H : RI r n) : RI (r.step h p).2 n ∧ ((r.step h p).1 = true → leftC n h (r.step h p).2 + 1 ≤ leftC n h r) ∧ ((r.step h p).1 = false → (r.step h p).2 = r ∧ r.und = none ∧ aboveC h.cs r.place = none) := by
  have hend : RI r.endS n := fun u e => by
    unfold RSt.endS at e
    cases hu : r.und with
    | none => rw [hu] at e; exact absurd (hu.symm.trans e) (by simp)
    | some v => rw [hu] at e; cases e
  have hmove : ∀ o, aboveC h.cs r.place = some o → RI (moveS h p r o) n ∧ leftC n h (moveS h p r o) + 1 ≤ leftC n h r := fun o ha => by
    have hm := above_mem ha
    have hr := hin o.s o (getC_of_mem ok hm.1)
    have hab := ab_some ha
    have hmul : abN h.cs o.s * (n + 2) + (n + 2) ≤ abN h.cs r.place * (n + 2) := by
      have := Nat.mul_le_mul_right (n + 2) hab
      rw [Nat.add_mul, Nat.one_mul] at this
      exact this
    unfold moveS
    split
    · refine ⟨fun u e => ?_, ?_⟩
      · have e' : u = Und.new o.s := by simpa using e.symm
        subst e'
        exact ⟨by simp [Und.new], fun s hs => by
          have e : s = o.s := by simpa [Und.new] using hs
          subst e
          exact hr⟩
      · unfold leftC unL
        simp only [Und.new, List.length_singleton]
        omega
    · refine ⟨H, ?_⟩
      unfold leftC
      simp only
      omega
  unfold RSt.step followR
  cases hu : r.und with
  | none =>
    simp only
    cases ha : aboveC h.cs r.place with
    | some o => exact ⟨(hmove o ha).1, fun _ => (hmove o ha).2, fun e => by cases e⟩
    | none =>
      refine ⟨hend, (fun e => by cases e), fun _ => ⟨?_, trivial, by first | rfl | trivial⟩⟩
      unfold RSt.endS
      rw [hu]
  | some u =>
    have hU := H u hu
    simp only
    cases hw : u.waits.getLast? with
    | none =>
      simp only
      cases ha : aboveC h.cs r.place with
      | some o => exact ⟨(hmove o ha).1, fun _ => (hmove o ha).2, fun e => by cases e⟩
      | none =>
        refine ⟨hend, fun _ => ?_, fun e => by cases e⟩
        unfold RSt.endS leftC
        rw [hu]
        simp only [unL]
        omega
    | some s =>
      have hc : UI u.cut n := ⟨hU.nd, hU.rg⟩
      have ha := hc.all hin (p := p) (t := r.sus) (refsC h.cs s)
      refine ⟨fun v e => ?_, fun _ => ?_, fun e => by cases e⟩
      · have e' : v = u.follow h p r.sus s := by simpa using e.symm
        subst e'
        exact ha.1
      · obtain ⟨l, hl⟩ := List.getLast?_eq_some_iff.1 hw
        have h2 : unL n (u.follow h p r.sus s) = unL n u.cut := ha.2
        have h3 : unL n u.cut + 1 = unL n u := by
          unfold unL Und.cut
          simp only [List.length_dropLast]
          rw [hl]
          simp
          omega
        unfold leftC
        rw [hu]
        simp only
        omega
end
theorem ab_le (cs : List Oc) (s : Nat) : abN cs s ≤ cs.length := List.countP_le_length
theorem left_newC {n : Nat} {h : HSt} (hl : h.cs.length ≤ n) (t : Int) : leftC n h (RSt.new t) ≤ n * (n + 2) := by
  show abN h.cs 0 * (n + 2) + 0 ≤ n * (n + 2)
  exact Nat.mul_le_mul_right _ (Nat.le_trans (ab_le _ _) hl)
theorem ri_new (t : Int) (n : Nat) : RI (RSt.new t) n := fun u e => by cases e
end Go.Proofs.YtlabdbfmfejkaaaDoor

namespace Go.Proofs.YtlabdbfmfejkaaaDoor
open Go.RowKit

section
variable {w0 w w' : World} {B hb rb pb qb : Nat} {h1 h2 h' : HSt} {p1 p2 p' : PSt} {X : Nat → Prop}
theorem P4.ph (x : P4 w0 B w hb rb pb qb h1 h2 p1 p2 X) : PH w0 B w pb hb h1 p1 X := by
  obtain ⟨F, G, P, Q, hp, rp, pn, qn, ap⟩ := x.ex
  exact ⟨⟨F, P, hp, pn, fun k hk => ⟨(ap.aF k hk).1, (ap.aF k hk).2.2, ap.fp k hk⟩, fun k hk => (ap.aP k hk).2.2⟩, x.bel, x.le, x.xs, x.pos⟩
theorem P4.fresh (x : P4 w0 B w hb rb pb qb h1 h2 p1 p2 X) {S : Nat → Prop} (hk : Kept w w' S) (hS : ∀ k, S k → k < w.heap.size → X k ∧ B ≤ k) : P4 w0 B w' hb rb pb qb h1 h2 p1 p2 (fun k => X k ∨ (w.heap.size ≤ k ∧ k < w'.heap.size)) := by
  have hk' : Kept w w' (fun k => X k ∧ B ≤ k) := hk.mono (fun k hl e => hS k e hl)
  have hs := hk.size
  obtain ⟨F, G, P, Q, hp, rp, pn, qn, ap⟩ := x.ex
  have hpos := x.pos
  have y := x.other hk' (fun k e => e)
  refine ⟨⟨F, G, P, Q, hp.kept hk' (fun e => by have := e.2; omega) (fun k a b => (ap.aF k a).2.2 b.1), rp.kept hk' (fun k a b => (ap.aG k a).2.2 b.1), pn.kept hk' (fun k a b => (ap.aP k a).2.2 b.1), qn.kept hk' (fun k a b => (ap.aQ k a).2.2 b.1), (ap.turn (Y := fun k => X k ∨ (w.heap.size ≤ k ∧ k < w'.heap.size)) (fun k _ hl e => ?_)).grow hs⟩, y.bel, y.le, fun k e => ?_, x.pos⟩
  · rcases e with e | e
    · exact e
    · omega
  · rcases e with e | e
    · exact y.xs k e
    · exact e.2
theorem hos_p4 (w0 : World) (B hb rb pb qb : Nat) (h1 h2 : HSt) (p1 p2 : PSt) : Hos (fun w X => P4 w0 B w hb rb pb qb h1 h2 p1 p2 X) w0 B pb hb h1 p1 :=
  ⟨fun _ _ x => x.ph, fun _ _ _ _ x hk hT => x.fresh hk hT, fun _ _ Y x hY => x.off Y hY⟩
end
theorem sq_bound {n : Nat} (hn : n ≤ 40) : n * (n + 2) ≤ 1680 ∧ n * (n + 2) + 1 = (n + 1) * (n + 1) ∧ n * (n + 2) ≤ (n + 1) * (n + 2) := by
  refine ⟨Nat.le_trans (Nat.mul_le_mul hn (by omega : n + 2 ≤ 42)) (by omega), ?_, Nat.mul_le_mul_right _ (by omega)⟩
  rw [Nat.add_mul, Nat.mul_add, Nat.mul_add]
  omega
theorem wrap_midC (x : Nat) (h1 : x < 1000000) : wrap64 (x : Int) = (x : Int) ∧ IntKind.i64.wrap (x : Int) = (x : Int) := by
  refine ⟨by rw [wrap64]; omega, by rw [IntKind.wrap_i64]; omega⟩
theorem m2_inC {g : Gr} {n : Nat} {h : HSt} (m : M2 g n n 0 h) (hok : h.Ok) : ∀ k o, getC h.cs k = some o → 1 ≤ k ∧ k ≤ n := by
  intro k o hk
  obtain ⟨ho, hs⟩ := getC_mem hk
  have hle := hok.le o ho
  rw [hs, m.last] at hle
  exact hle
theorem ends_arith {k l E L M : Nat} (h : k + l ≤ E) (H : E ≤ L ∧ E + 1 = M ∧ E ≤ 1680) : k ≤ E ∧ 7 * k + 7 ≤ 900000 ∧ (k : Int) ≤ (L : Int) ∧ (k : Int) ≤ (M : Int) := by
  omega
theorem ends_more {k l l' E : Nat} (h : k + l ≤ E) (h' : l' < l) : k + 1 + l' ≤ E := by omega
set_option maxRecDepth 20000 in
set_option maxHeartbeats 2000000 in
theorem reachEnds_any {w : World} {vr vo vi vl : Value} {g : Gr} {xs : List Way} (x : GI w vr vo vi g) (hT : TB w) (hl : WS w vl 5 cWay xs) (hR : ∀ y ∈ xs, y.Ok) :
    Calls Tryd.prog 6 #[.agg #[vr, vo, vi], vl] w fun e w' => e = .returned (.bool true) ∧ Below w.heap.size w w' := by
  obtain ⟨a1, c1, a2, c2, a3, c3, rfl, rfl, rfl⟩ := x.shape
  obtain ⟨lo, lc, rfl, _, _⟩ := hl.slice
  have hA : ∀ o, Below w.heap.size w (w.alloc o) := fun o => bel_alloc w o
  have hHp := fun o => heaps_at (x.below (hA o)) (hT.below (hA o)) 40 (by omega)
  have HL : Hid _ := hidden hl
  have HRW : Hid _ := hidden hR
  clear x hl hR
  go_enter Tryd.func6, Tryd.ntmps6
  go_wp2_with fail
  refine (hHp _).mono ?_
  rintro e w1 ⟨hb, rb, h, rfl, y1, m1⟩
  obtain ⟨wA, hwA⟩ : ∃ z, z = w.alloc (.cells #[.slice a1 g.refs.length c1, .slice a2 g.out.length c2, .slice a3 g.inn.length c3] 26) := ⟨_, rfl⟩
  rw [← hwA] at y1
  have hbA : Below w.heap.size w wA := by rw [hwA]; exact hA _
  have hTA : TB wA := hT.below hbA
  have HWL : Hid _ := hidden (HL.out.below hbA)
  clear hHp hwA hA hT
  have hok := y1.ok
  obtain ⟨N, hN⟩ : ∃ N, N = min g.refs.length 40 := ⟨_, rfl⟩
  rw [← hN] at m1
  have hla : h.last = N := m1.last
  have hN40 : N ≤ 40 := by omega
  have HIN : Hid (∀ k o, getC h.cs k = some o → 1 ≤ k ∧ k ≤ N) := m2_inC m1 hok
  have HRF : Hid (∀ s, ∀ x ∈ refsC h.cs s, x.2 < 18446744073709551616) := m2_u64 m1 hok (by omega)
  have HLN : Hid (h.cs.length ≤ N) := Nat.le_of_eq m1.len
  have HOK : Hid h.Ok := hok
  have HLA : Hid (h.last = N) := hla
  clear m1 hN hok
  go_wp2_with fail
  refine (reknown_any _ (hTA.below (y1.bel.mono (Nat.le_refl _)))).mono ?_
  rintro e w2 ⟨rfl, b2⟩
  have hPt := painted_any (y1.read b2) HWL.out HRW.out (by omega)
  clear y1 b2 hTA hla HWL HRW HL
  go_wp2_with fail
  refine hPt.mono ?_
  rintro e w3 ⟨pb, qb, p, rfl, z3, K3⟩
  have H := hos_p4 wA wA.heap.size hb rb pb qb h h p p
  have hNw := H.rnew z3
  have hrc := z3.last
  rw [HLA.out] at hrc
  have HNM : Hid (∀ e ∈ p.me, namesB e.1 = true) := K3.nm
  clear hPt z3 K3
  go_wp2_with fail
  refine hNw.mono ?_
  rintro e w4 ⟨rfl, x4, b4⟩
  generalize w3.heap.size = xb at *
  have hBe := x4.begin H 0
  clear hNw x4 b4 hrc
  go_wp2_with fail
  refine hBe.mono ?_
  rintro e w5 ⟨rfl, x5, k5⟩
  have hrc := (x5.out H).last
  rw [HLA.out] at hrc
  have hrl := cell_lt hrc
  have HX5 : Hid _ := hidden x5
  obtain ⟨s1, s2, s3⟩ := sq_bound hN40
  obtain ⟨E, hE⟩ : ∃ E, E = N * (N + 2) := ⟨_, rfl⟩
  obtain ⟨D1, hD1⟩ : ∃ D, D = N + 1 := ⟨_, rfl⟩
  obtain ⟨D2, hD2⟩ : ∃ D, D = N + 2 := ⟨_, rfl⟩
  obtain ⟨L, hLe⟩ : ∃ L, L = D1 * D2 := ⟨_, rfl⟩
  obtain ⟨M, hMe⟩ : ∃ M, M = D1 * D1 := ⟨_, rfl⟩
  have a1' : (N : Int) + 1 = (D1 : Int) := by omega
  have a2' : (N : Int) + 2 = (D2 : Int) := by omega
  have a3' : (D1 : Int) * (D2 : Int) = (L : Int) := by rw [hLe]; simp
  have a4' : (D1 : Int) * (D1 : Int) = (M : Int) := by rw [hMe]; simp
  rw [← hE, ← hD1] at s2
  rw [← hE, ← hD1, ← hD2] at s3
  rw [← hMe] at s2
  rw [← hLe] at s3
  rw [← hE] at s1
  have HS : Hid (E ≤ L ∧ E + 1 = M ∧ E ≤ 1680) := ⟨s3, s2, s1⟩
  have HT0 : Hid (leftC N h (RSt.new 0) ≤ E) := by
    have := left_newC HLN.out 0
    rw [hE]
    exact this
  have hL2 : L ≤ 41 * 42 := by rw [hLe]; exact Nat.mul_le_mul (by omega) (by omega)
  have hM2 : M ≤ 41 * 41 := by rw [hMe]; exact Nat.mul_le_mul (by omega) (by omega)
  have hD1s : D1 ≤ 41 := by omega
  have hD2s : D2 ≤ 42 := by omega
  have hNi : (N : Int) ≤ 40 := by omega
  clear hBe x5 k5 s1 s2 s3 hE hD1 hD2 hLe hMe
  have q1 : D1 < 1000000 := by omega
  have q2 : D2 < 1000000 := by omega
  have q3 : L < 1000000 := by omega
  have q4 : M < 1000000 := by omega
  have q5 : N < 1000000 := by omega
  obtain ⟨b1, b2⟩ := wrap_midC D1 q1
  obtain ⟨b3, b4⟩ := wrap_midC D2 q2
  obtain ⟨b5, b6⟩ := wrap_midC L q3
  obtain ⟨b7, b8⟩ := wrap_midC M q4
  obtain ⟨b9, b10⟩ := wrap_midC N q5
  clear hL2 hM2 hD1s hD2s q1 q2 q3 q4 q5
  go_wp2
  go_loopw [12] (fun t wr => ∃ (k : Nat) (r : RSt), t = .int .i64 (k : Int) ∧ RcS (fun w X => P4 wA wA.heap.size w hb rb pb qb h h p p X) wr wA.heap.size xb hb pb r (fun _ => False) ∧ RI r N ∧ RB r (7 * k) ∧ k + leftC N h r ≤ E) (fun t _ => E + 1 - (intOf t).toNat)
  case atStart => exact ⟨0, RSt.new 0, rfl, HX5.out, ri_new 0 N, RB.new 0, by have := HT0.out; omega⟩
  case round =>
    clear HX5 hrc hrl
    obtain ⟨k, r, rfl, x, ri, rb', hk⟩ := hrel
    obtain ⟨hke, hk7, hkl, hkm⟩ := ends_arith hk HS.out
    have hS := x.step H HNM.out HRF.out rb' (Nat.le_trans (Nat.le_add_right _ 7) hk7)
    have hq := step_leftC (p := p) HIN.out HOK.out ri
    have hbs := rb'.step HOK.out HNM.out
    generalize r.step h p = R at *
    obtain ⟨b, r2⟩ := R
    simp only at hS hq hbs
    cases b with
    | true =>
      have HM : Hid (k + 1 + leftC N h r2 ≤ E) := by
        exact ends_more hk (hq.2.1 rfl)
      have HRI : Hid _ := hidden hq.1
      have HRB : Hid (RB r2 (7 * (k + 1))) := hbs.mono (Nat.le_of_eq (by rw [Nat.mul_add]))
      have HKE : Hid (k ≤ E) := hke
      clear x ri rb' hk hke hq hbs
      go_wp2_with fail
      refine hS.mono ?_
      rintro e w6 ⟨rfl, x6, k6⟩
      have HX6 : Hid _ := hidden x6
      clear hS x6 k6
      go_wp2
      go_roundw
      case rel => exact ⟨k + 1, r2, by go_num, HX6.out, HRI.out, HRB.out, HM.out⟩
      case measure => have := HKE.out; simp [intOf]; omega
    | false =>
      obtain ⟨e1, e2, e3⟩ := hq.2.2 rfl
      subst e1
      have HRB : Hid _ := hidden hbs
      have HRI : Hid _ := hidden ri
      have HE23 : Hid (r2.und = none ∧ aboveC h.cs r2.place = none) := ⟨e2, e3⟩
      have HK7 : Hid (7 * k + 7 ≤ 900000) := by
        exact hk7
      clear x ri rb' hk hke hq hbs e2 e3
      go_wp2_with fail
      refine hS.mono ?_
      rintro e w6 ⟨rfl, x6, k6⟩
      have hS2 := x6.step H HNM.out HRF.out HRB.out HK7.out
      have hs2 : (r2.step h p).1 = false := by
        unfold RSt.step followR
        rw [HE23.out.1]
        simp only
        rw [HE23.out.2]
        rfl
      rw [hs2] at hS2
      clear hS x6 k6 hs2
      go_wp2_with fail
      refine hS2.mono ?_
      rintro e w7 ⟨rfl, x7, k7⟩
      have HB : Hid _ := hidden (hbA.trans (((x7.out H).bel).mono hbA.size))
      clear hS2 x7 k7
      go_wp2
      go_ret
      exact ⟨rfl, HB.out⟩
end Go.Proofs.YtlabdbfmfejkaaaDoor

namespace Go.Proofs.YtlabdbfmfejkaaaDoor
open Go.RowKit
open Go.Sort hiding Below

theorem grow_more {w W : World} (n : Nat) (os : Array Obj) (h : ∃ q os', W = grow (w.drewN q) os') : ∃ q os', grow (W.drewN n) os = grow (w.drewN q) os' := by
  obtain ⟨q, os', e⟩ := h
  rw [e]
  exact ⟨q + n, os' ++ os, by rw [← grow_grow, ← World.drewN_drewN]; rfl⟩
theorem grow_more' {w W : World} (n : Nat) (h : ∃ q os', W = grow (w.drewN q) os') : ∃ q os', W.drewN n = grow (w.drewN q) os' := by
  have := grow_more n #[] h
  rw [grow_empty] at this
  exact this
set_option maxRecDepth 20000 in
set_option maxHeartbeats 2000000 in
theorem idsI_any (xs : List (Int × Nat)) (v1 v2 : Value) (B1 B2 : Nat) (w : World) (ha : OwI w B1 v1 xs) (hb : OwI w B2 v2 xs) :
    Calls Tryd.prog 27 #[v1, v2] w fun e w' => e = .returned (.bool true) ∧ ∃ q os', w' = grow (w.drewN q) os' := by
  have hg := guardID
  have he := eqID
  obtain ⟨a1, c1, rfl, hc1, hm1, ha⟩ := ha.at
  obtain ⟨a2, c2, rfl, hc2, hm2, hb⟩ := hb.at
  unfold maxLen at hm1 hm2
  have HA : Hid _ := hidden ha
  have HB : Hid _ := hidden hb
  clear ha hb
  go_enter Tryd.func27, Tryd.ntmps27
  go_wp2
  go_loopw [5] (fun i wr => ∃ k : Nat, k ≤ xs.length ∧ i = .int .i64 (k : Int) ∧ Below w.heap.size w wr ∧ ∃ q os', wr = grow (w.drewN q) os') (fun i _ => xs.length - (intOf i).toNat)
  case atStart => exact ⟨0, Nat.zero_le _, rfl, Below.refl _ _, 0, #[], by rw [grow_empty]; rfl⟩
  case round =>
    obtain ⟨k, hk, rfl, hbr, hgr⟩ := hrel
    have HGR : Hid _ := hidden hgr
    clear hgr
    have hzr := hbr.size
    by_cases hlt : k < xs.length
    · obtain ⟨g1, rfl, _, l1, p0, p1⟩ := HA.out k hlt
      obtain ⟨g2, rfl, _, l2, q0, q1⟩ := HB.out k hlt
      have p0 := (hbr.cell (p := ⟨g1, k * 2, none⟩) l1).trans p0
      have p1 := (hbr.cell (p := ⟨g1, k * 2 + 1, none⟩) l1).trans p1
      have q0 := (hbr.cell (p := ⟨g2, k * 2, none⟩) l2).trans q0
      have q1 := (hbr.cell (p := ⟨g2, k * 2 + 1, none⟩) l2).trans q1
      generalize xs[k] = x at *
      have hq1 : (x.1 == x.1) = true := beq_self_eq_true _
      have hq2 : ((x.2 : Int) == (x.2 : Int)) = true := beq_self_eq_true _
      go_wp2
      go_quiet (fail)
      go_wp2
      go_roundw
      case rel =>
        exact ⟨k + 1, by omega, by go_num, hbr.trans ((below_drewN0 _ _).mono hzr), grow_more' _ HGR.out⟩
      case measure => simp [intOf]; omega
    · go_wp2
      go_ret
      exact ⟨rfl, HGR.out⟩
theorem RL.at {w : World} {B : Nat} {v : Value} {ts : List ((Nat × List (Int × Nat)) × Value)} (h : RL w B v ts) : ∃ ao c, v = .slice ao ts.length c ∧ ts.length ≤ c ∧ c ≤ maxLen ∧ ∀ k (hk : k < ts.length), ∃ g, ao = some ⟨g, 0, none⟩ ∧ B ≤ g ∧ g < w.heap.size ∧ w.cell? ⟨g, k * 2, none⟩ = some (.int .u64 (ts[k].1.1 : Int)) ∧ w.cell? ⟨g, k * 2 + 1, none⟩ = some ts[k].2 := by
  obtain ⟨ao, c, rfl, h1, h2, h3⟩ := own_slice h.ow
  refine ⟨ao, c, rfl, h1, h2, fun k hk => ?_⟩
  obtain ⟨e0, e1⟩ := endV_at ts k hk
  rcases h.ow.2 with ⟨_, h0⟩ | ⟨g, cap, cur, hv, hbg, hg, hn, hm, hs, ht⟩
  · omega
  · simp only [Value.slice.injEq] at hv
    obtain ⟨rfl, _, rfl⟩ := hv
    have hgl := (Array.getElem?_eq_some_iff.1 hg).1
    have hcell : ∀ (j : Nat) (u : Value), (endV ts)[j]? = some u → w.cell? ⟨g, j, none⟩ = some u := fun j u hu => by
      rw [cell_of_row w g j _ _ _ hg]
      rw [← ht, List.getElem?_take] at hu
      split at hu
      · simpa using hu
      · cases hu
    exact ⟨g, rfl, hbg, hgl, hcell _ _ e0, hcell _ _ e1⟩
set_option maxRecDepth 20000 in
set_option maxHeartbeats 2000000 in
theorem rowsEq_any (ts us : List ((Nat × List (Int × Nat)) × Value)) (v1 v2 : Value) (B1 B2 : Nat) (w : World) (ha : RL w B1 v1 ts) (hb : RL w B2 v2 us) (he : ts.map (·.1) = us.map (·.1)) :
    Calls Tryd.prog 29 #[v1, v2] w fun e w' => e = .returned (.bool true) ∧ Below w.heap.size w w' := by
  have hlen : us.length = ts.length := by
    have := congrArg List.length he
    simpa using this.symm
  have HIq : Hid (∀ k (h1 : k < ts.length) (h2 : k < us.length), us[k].1 = ts[k].1) := fun k h1 h2 => by
    have e := congrArg (fun l => l[k]?) he
    simp only [List.getElem?_map, List.getElem?_eq_getElem h1, List.getElem?_eq_getElem h2, Option.map_some, Option.some.injEq] at e
    exact e.symm
  have HO1 : Hid (∀ W, Below w.heap.size w W → ∀ k (h1 : k < ts.length), OwI W B1 ts[k].2 ts[k].1.2) := fun W hB k h1 => (ha.sr _ (List.getElem_mem h1)).below hB
  have HO2 : Hid (∀ W, Below w.heap.size w W → ∀ k (h1 : k < us.length), OwI W B2 us[k].2 us[k].1.2) := fun W hB k h1 => (hb.sr _ (List.getElem_mem h1)).below hB
  obtain ⟨a1, c1, rfl, hc1, hm1, ha⟩ := ha.at
  obtain ⟨a2, c2, rfl, hc2, hm2, hb⟩ := hb.at
  unfold maxLen at hm1 hm2
  obtain ⟨n, hn⟩ : ∃ n, n = ts.length := ⟨_, rfl⟩
  have HA : Hid _ := hidden ha
  have HB : Hid _ := hidden hb
  have HN : Hid (n = ts.length ∧ us.length = ts.length) := ⟨hn, hlen⟩
  rw [hlen] at hc2 ⊢
  rw [← hn] at hc1 hc2 ⊢
  clear ha hb he hn hlen
  go_enter Tryd.func29, Tryd.ntmps29
  go_wp2
  go_loopw [5] (fun i wr => ∃ k : Nat, k ≤ n ∧ i = .int .i64 (k : Int) ∧ Below w.heap.size w wr) (fun i _ => n - (intOf i).toNat)
  case atStart => exact ⟨0, Nat.zero_le _, rfl, Below.refl _ _⟩
  case round =>
    obtain ⟨k, hk, rfl, hbr⟩ := hrel
    have hzr := hbr.size
    by_cases hlt : k < n
    · have h1 : k < ts.length := by have := HN.out; omega
      have h2 : k < us.length := by have := HN.out; omega
      obtain ⟨g1, rfl, _, l1, p0, p1⟩ := HA.out k h1
      obtain ⟨g2, rfl, _, l2, q0, q1⟩ := HB.out k h2
      have heq := HIq.out k h1 h2
      have o1 := HO1.out
      have o2 := HO2.out
      have p0 := (hbr.cell (p := ⟨g1, k * 2, none⟩) l1).trans p0
      have p1 := (hbr.cell (p := ⟨g1, k * 2 + 1, none⟩) l1).trans p1
      have q0 := (hbr.cell (p := ⟨g2, k * 2, none⟩) l2).trans q0
      have q1 := (hbr.cell (p := ⟨g2, k * 2 + 1, none⟩) l2).trans q1
      have hC : ∀ n os, Calls Tryd.prog 27 #[ts[k].2, us[k].2] (grow (wr.drewN n) os) fun e w' => e = .returned (.bool true) ∧ ∃ q os', w' = grow ((grow (wr.drewN n) os).drewN q) os' := fun n os => by
        have hB := hbr.trans ((below_grow wr n os).mono hzr)
        have a := o1 _ hB k h1
        have b := o2 _ hB k h2
        rw [heq] at b
        exact idsI_any _ _ _ _ _ _ a b
      rw [heq] at q0
      clear o1 o2 heq
      have P0 := cell_grown (w := wr) (a := ⟨g1, k * 2, none⟩) (cell_lt p0) p0
      have P1 := cell_grown (w := wr) (a := ⟨g1, k * 2 + 1, none⟩) (cell_lt p1) p1
      have Q0 := cell_grown (w := wr) (a := ⟨g2, k * 2, none⟩) (cell_lt q0) q0
      have Q1 := cell_grown (w := wr) (a := ⟨g2, k * 2 + 1, none⟩) (cell_lt q1) q1
      generalize ts[k].2 = x1 at *
      generalize us[k].2 = x2 at *
      generalize ts[k].1.1 = i1 at *
      have hq1 : ((i1 : Int) == (i1 : Int)) = true := beq_self_eq_true _
      go_upto_region 6 with fail
      have hmix : Tryd.prog.follows .mixedOrders = true := by kernel_rfl
      refine wp_region_quiet_grown (by assumption) (by kernel_rfl) ?_
      iterate 25 (quiet_step (first | (go_at_call 27; exact Calls.grown_of (hC _ _))))
      refine wpQuiet_nil ?_
      intro _ hw'
      obtain ⟨⟨nq, osq⟩, hw''⟩ := hw'
      subst hw''
      clear P0 P1 Q0 Q1 hC
      go_wp2
      go_roundw
      case rel => exact ⟨k + 1, by omega, by go_num, hbr.trans ((below_grow _ _ _).mono hzr)⟩
      case measure => simp [intOf]; omega
    · go_wp2
      go_ret
      exact ⟨rfl, hbr⟩
end Go.Proofs.YtlabdbfmfejkaaaDoor

namespace Go.Proofs.YtlabdbfmfejkaaaDoor
open Go.RowKit

/-- Suspect objects lead from s to a. -/
inductive Led (h : HSt) (p : PSt) (t : Int) (s : Nat) : Nat → Prop where
  | base : Led h p t s s
  | next {a b : Nat} : Led h p t s a → ((h.node : Int), b) ∈ refsC h.cs a → susO h p t b = true → Led h p t s b
/-- One reference is heeded. -/
def Heed (h : HSt) (p : PSt) (t : Int) (u : Und) (x : Int × Nat) : Prop := (x.1 = (h.node : Int) → susO h p t x.2 = true → x.2 ∈ u.row) ∧ (x.1 ≠ (h.node : Int) → susI p t x = true → x ∈ u.outs)
/-- The remote references that a row tells. -/
def Tell (h : HSt) (p : PSt) (t : Int) (s : Nat) (x : Int × Nat) : Prop := ∃ a, Led h p t s a ∧ x ∈ refsC h.cs a ∧ x.1 ≠ (h.node : Int) ∧ susI p t x = true
/-- A row under way. -/
structure UJ (h : HSt) (p : PSt) (t : Int) (u : Und) : Prop where
  ini : u.inn ∈ u.row
  led : ∀ a ∈ u.row, Led h p t u.inn a
  wr : ∀ a ∈ u.waits, a ∈ u.row
  dn : ∀ a ∈ u.row, a ∉ u.waits → ∀ x ∈ refsC h.cs a, Heed h p t u x
  ou : OutL u.outs
  snd : ∀ x ∈ u.outs, Tell h p t u.inn x
/-- A row that is through. -/
structure Full (h : HSt) (p : PSt) (t : Int) (e : Nat × List (Int × Nat)) : Prop where
  ou : OutL e.2
  mem : ∀ x, x ∈ e.2 ↔ Tell h p t e.1 x
section
variable {h : HSt} {p : PSt} {t : Int} {u : Und}
/-- What a look leaves. -/
structure Grow (u v : Und) : Prop where
  inn : v.inn = u.inn
  row : ∀ a ∈ u.row, a ∈ v.row
  waits : ∀ a ∈ u.waits, a ∈ v.waits
  outs : ∀ x ∈ u.outs, x ∈ v.outs
  new : ∀ a ∈ v.row, a ∈ u.row ∨ a ∈ v.waits
  wn : ∀ a ∈ v.waits, a ∈ u.waits ∨ a ∈ v.row
theorem Grow.rfl' : Grow u u := ⟨rfl, fun _ h => h, fun _ h => h, fun _ h => h, fun _ h => Or.inl h, fun _ h => Or.inl h⟩
theorem Grow.trans {u v w : Und} (a : Grow u v) (b : Grow v w) : Grow u w :=
  ⟨b.inn.trans a.inn, fun x hx => b.row x (a.row x hx), fun x hx => b.waits x (a.waits x hx), fun x hx => b.outs x (a.outs x hx),
   fun x hx => (b.new x hx).elim (fun h1 => (a.new x h1).elim Or.inl fun h2 => Or.inr (b.waits x h2)) Or.inr,
   fun x hx => (b.wn x hx).elim (fun h1 => (a.wn x h1).elim Or.inl fun h2 => Or.inr (b.row x h2)) Or.inr⟩
theorem Heed.grow {v : Und} {x : Int × Nat} (H : Heed h p t u x) (g : Grow u v) : Heed h p t v x :=
  ⟨fun a b => g.row _ (H.1 a b), fun a b => g.outs _ (H.2 a b)⟩
theorem look_grow (nm : ∀ e ∈ p.me, namesB e.1 = true) (ho : OutL u.outs) (x : Int × Nat) : Grow u (u.look h p t x) ∧ Heed h p t (u.look h p t x) x ∧ OutL (u.look h p t x).outs
    ∧ (∀ a ∈ (u.look h p t x).row, a ∈ u.row ∨ (x = ((h.node : Int), a) ∧ susO h p t a = true)) ∧ (∀ y ∈ (u.look h p t x).outs, y ∈ u.outs ∨ (y = x ∧ x.1 ≠ (h.node : Int) ∧ susI p t x = true)) := by
  unfold Und.look
  split
  · next hn =>
    split
    · next hs =>
      unfold Und.put
      split
      · next hm => exact ⟨Grow.rfl', ⟨fun _ _ => hm, fun a => absurd hn a⟩, ho, fun a ha => Or.inl ha, fun y hy => Or.inl hy⟩
      · refine ⟨⟨rfl, fun a ha => List.mem_append_left _ ha, fun a ha => List.mem_append_left _ ha, fun _ h => h, fun a ha => ?_, fun a ha => ?_⟩, ⟨fun _ _ => by simp, fun a => absurd hn a⟩, ho, fun a ha => ?_, fun y hy => Or.inl hy⟩
        · rcases List.mem_append.1 ha with ha | ha
          · exact Or.inl ha
          · exact Or.inr (List.mem_append_right _ ha)
        · rcases List.mem_append.1 ha with ha | ha
          · exact Or.inl ha
          · exact Or.inr (List.mem_append_right _ ha)
        · rcases List.mem_append.1 ha with ha | ha
          · exact Or.inl ha
          · rw [List.mem_singleton] at ha
            subst ha
            exact Or.inr ⟨Prod.ext hn rfl, hs⟩
    · next hs => exact ⟨Grow.rfl', ⟨fun _ b => absurd b hs, fun a => absurd hn a⟩, ho, fun a ha => Or.inl ha, fun y hy => Or.inl hy⟩
  · next hn =>
    split
    · next hs =>
      have hm := mem_meet ho (sus_names nm hs)
      exact ⟨⟨rfl, fun _ h => h, fun _ h => h, fun y hy => (hm y).2 (Or.inl hy), fun _ h => Or.inl h, fun _ h => Or.inl h⟩, ⟨fun a => absurd a hn, fun _ _ => (hm x).2 (Or.inr rfl)⟩, ho.meet (sus_names nm hs), fun a ha => Or.inl ha,
        fun y hy => ((hm y).1 hy).elim Or.inl fun e => Or.inr ⟨e, hn, hs⟩⟩
    · next hs => exact ⟨Grow.rfl', ⟨fun a => absurd a hn, fun _ b => absurd b hs⟩, ho, fun a ha => Or.inl ha, fun y hy => Or.inl hy⟩
theorem all_grow (nm : ∀ e ∈ p.me, namesB e.1 = true) : ∀ (l : List (Int × Nat)) {u : Und}, OutL u.outs → Grow u (u.all h p t l) ∧ (∀ x ∈ l, Heed h p t (u.all h p t l) x) ∧ OutL (u.all h p t l).outs
    ∧ (∀ a ∈ (u.all h p t l).row, a ∈ u.row ∨ (((h.node : Int), a) ∈ l ∧ susO h p t a = true)) ∧ (∀ y ∈ (u.all h p t l).outs, y ∈ u.outs ∨ (y ∈ l ∧ y.1 ≠ (h.node : Int) ∧ susI p t y = true))
  | [], u, ho => ⟨Grow.rfl', fun _ hx => (by cases hx), ho, fun a ha => Or.inl ha, fun y hy => Or.inl hy⟩
  | x :: l, u, ho => by
    obtain ⟨a1, a2, a3, a4, a5⟩ := look_grow (h := h) (t := t) nm ho x
    obtain ⟨b1, b2, b3, b4, b5⟩ := all_grow nm l a3
    have e : u.all h p t (x :: l) = (u.look h p t x).all h p t l := rfl
    rw [e]
    refine ⟨a1.trans b1, fun y hy => ?_, b3, fun a ha => ?_, fun y hy => ?_⟩
    · rcases List.mem_cons.1 hy with rfl | hy
      · exact a2.grow b1
      · exact b2 y hy
    · rcases b4 a ha with h1 | ⟨h1, h2⟩
      · rcases a4 a h1 with h3 | ⟨h3, h4⟩
        · exact Or.inl h3
        · exact Or.inr ⟨by rw [← h3]; exact List.mem_cons_self .., h4⟩
      · exact Or.inr ⟨List.mem_cons_of_mem _ h1, h2⟩
    · rcases b5 y hy with h1 | ⟨h1, h2⟩
      · rcases a5 y h1 with h3 | ⟨h3, h4, h5⟩
        · exact Or.inl h3
        · subst h3
          exact Or.inr ⟨List.mem_cons_self .., h4, h5⟩
      · exact Or.inr ⟨List.mem_cons_of_mem _ h1, h2⟩
theorem UJ.follow (nm : ∀ e ∈ p.me, namesB e.1 = true) (H : UJ h p t u) {s : Nat} (hs : u.waits.getLast? = some s) : UJ h p t (u.follow h p t s) := by
  obtain ⟨l, hl⟩ := List.getLast?_eq_some_iff.1 hs
  have hsr : s ∈ u.row := H.wr s (by rw [hl]; simp)
  have hc : u.cut.waits = l := by
    show u.waits.dropLast = l
    rw [hl]
    simp
  obtain ⟨b1, b2, b3, b4, b5⟩ := all_grow (h := h) (t := t) nm (refsC h.cs s) (u := u.cut) H.ou
  have hi : (u.follow h p t s).inn = u.inn := b1.inn
  refine ⟨?_, fun a ha => ?_, fun a ha => ?_, fun a ha hn x hx => ?_, b3, fun x hx => ?_⟩
  · rw [hi]
    exact b1.row _ H.ini
  · rw [hi]
    rcases b4 a ha with h1 | ⟨h1, h2⟩
    · exact H.led a h1
    · exact (H.led s hsr).next h1 h2
  · rcases b1.wn a ha with h1 | h1
    · exact b1.row a (H.wr a (by rw [hc] at h1; rw [hl]; exact List.mem_append_left _ h1))
    · exact h1
  · rcases b1.new a ha with h1 | h1
    · by_cases ha2 : a ∈ u.waits
      · rw [hl] at ha2
        rcases List.mem_append.1 ha2 with h3 | h3
        · exact absurd (b1.waits a (by rw [hc]; exact h3)) hn
        · rw [List.mem_singleton] at h3
          subst h3
          exact b2 x hx
      · have h4 := H.dn a h1 ha2 x hx
        have h5 : Heed h p t u.cut x := h4
        exact h5.grow b1
    · exact absurd h1 hn
  · rw [hi]
    rcases b5 x hx with h1 | ⟨h1, h2, h3⟩
    · exact H.snd x h1
    · exact ⟨s, H.led s hsr, h1, h2, h3⟩
theorem UJ.new (s : Nat) : UJ h p t (Und.new s) :=
  ⟨by simp [Und.new], fun a ha => by
    have e : a = s := by simpa [Und.new] using ha
    subst e
    exact Led.base, fun a ha => ha, fun a ha hn => absurd ha hn, OutL.nil, fun x hx => by cases hx⟩
theorem UJ.full (H : UJ h p t u) (hw : u.waits = []) : Full h p t (u.inn, u.outs) := by
  have hr : ∀ a, Led h p t u.inn a → a ∈ u.row := fun a ha => by
    induction ha with
    | base => exact H.ini
    | next _ h2 h3 ih => exact (H.dn _ ih (by rw [hw]; simp) _ h2).1 rfl h3
  refine ⟨H.ou, fun x => ⟨H.snd x, ?_⟩⟩
  rintro ⟨a, h1, h2, h3, h4⟩
  exact (H.dn a (hr a h1) (by rw [hw]; simp) x h2).2 h3 h4
end
/-- With what rows began. -/
def innsR (r : RSt) : List Nat := r.ended.map (·.1) ++ (match r.und with
  | none => []
  | some u => [u.inn])
/-- A reacher at any time. -/
structure RJ (h : HSt) (p : PSt) (r : RSt) : Prop where
  un : ∀ u, r.und = some u → UJ h p r.sus u
  en : ∀ e ∈ r.ended, Full h p r.sus e
  srt : (innsR r).Pairwise (· < ·)
  mem : ∀ s, s ∈ innsR r ↔ s ≤ r.place ∧ ∃ o, getC h.cs s = some o ∧ beginsB h p r o = true
section
variable {h : HSt} {p : PSt} {r : RSt}
theorem RJ.new (t : Int) (h0 : ∀ o ∈ h.cs, 1 ≤ o.s) : RJ h p (RSt.new t) :=
  ⟨fun u e => (by cases e), fun e he => (by cases he), List.Pairwise.nil, fun s => ⟨fun hs => (by cases hs), fun ⟨h1, o, h2, _⟩ => by
    obtain ⟨h3, h4⟩ := getC_mem h2
    have := h0 o h3
    have h1' : s ≤ 0 := h1
    omega⟩⟩
theorem inns_endS : innsR r.endS = innsR r := by
  unfold innsR RSt.endS
  cases hu : r.und with
  | none => simp only [hu]
  | some u => simp
theorem RJ.endS (H : RJ h p r) (hw : ∀ u, r.und = some u → u.waits = []) : RJ h p r.endS ∧ r.endS.und = none ∧ r.endS.sus = r.sus ∧ r.endS.place = r.place := by
  have hi := inns_endS (r := r)
  have hsp : r.endS.und = none ∧ r.endS.sus = r.sus ∧ r.endS.place = r.place := by
    unfold RSt.endS
    cases hu : r.und with
    | none => exact ⟨hu, rfl, rfl⟩
    | some u => exact ⟨rfl, rfl, rfl⟩
  obtain ⟨e1, e2, e3⟩ := hsp
  refine ⟨⟨fun u e => (by rw [e1] at e; cases e), fun e he => ?_, by rw [hi]; exact H.srt, fun s => ?_⟩, e1, e2, e3⟩
  · rw [e2]
    unfold RSt.endS at he
    cases hu : r.und with
    | none => rw [hu] at he; exact H.en e he
    | some u =>
      rw [hu] at he
      rcases List.mem_append.1 he with he | he
      · exact H.en e he
      · rw [List.mem_singleton] at he
        subst he
        exact (H.un u hu).full (hw u hu)
  · rw [hi, e3, H.mem s]
    unfold beginsB
    rw [e2]
theorem RJ.move (ok : h.Ok) (H : RJ h p r) (hw : ∀ u, r.und = some u → u.waits = []) {o : Oc} (ho : aboveC h.cs r.place = some o) : RJ h p (moveS h p r o) := by
  obtain ⟨hm, hl⟩ := above_mem ho
  have hgo := getC_of_mem ok hm
  have hbet : ∀ s o', getC h.cs s = some o' → s ≤ o.s → s ≤ r.place ∨ (s = o.s ∧ o' = o) := fun s o' hg hs => by
    obtain ⟨h1, h2⟩ := getC_mem hg
    by_cases h3 : s ≤ r.place
    · exact Or.inl h3
    · refine Or.inr ?_
      have h4 := above_least ok.srt ho o' h1 (by omega)
      have h5 : s = o.s := by omega
      subst h5
      rw [hgo] at hg
      exact ⟨rfl, (Option.some.inj hg).symm⟩
  obtain ⟨J, e1, e2, e3⟩ := H.endS hw
  unfold moveS
  split
  · next hb =>
    have hin : innsR { r.endS with place := o.s, und := some (Und.new o.s) } = innsR r ++ [o.s] := by
      rw [← inns_endS (r := r)]
      unfold innsR
      rw [e1]
      simp [Und.new]
    refine ⟨fun u e => ?_, J.en, ?_, fun s => ?_⟩
    · have e' : u = Und.new o.s := by simpa using e.symm
      subst e'
      exact UJ.new o.s
    · rw [hin, List.pairwise_append]
      refine ⟨H.srt, by simp, fun a ha b hb => ?_⟩
      rw [List.mem_singleton] at hb
      have := ((H.mem a).1 ha).1
      omega
    · rw [hin, List.mem_append, List.mem_singleton, H.mem s]
      have hbb : ∀ o', beginsB h p { r.endS with place := o.s, und := some (Und.new o.s) } o' = beginsB h p r o' := fun o' => by
        unfold beginsB
        show (decide (0 < o'.d) && susO h p r.endS.sus o'.s) = _
        rw [e2]
      constructor
      · rintro (⟨h1, o', h2, h3⟩ | rfl)
        · exact ⟨by show s ≤ o.s; omega, o', h2, by rw [hbb]; exact h3⟩
        · exact ⟨Nat.le_refl _, o, hgo, by rw [hbb]; exact hb⟩
      · rintro ⟨h1, o', h2, h3⟩
        rw [hbb] at h3
        rcases hbet s o' h2 h1 with h4 | ⟨h4, _⟩
        · exact Or.inl ⟨h4, o', h2, h3⟩
        · exact Or.inr h4
  · next hb =>
    refine ⟨H.un, H.en, H.srt, fun s => ?_⟩
    have hin : innsR { r with place := o.s } = innsR r := rfl
    rw [hin, H.mem s]
    constructor
    · rintro ⟨h1, o', h2, h3⟩
      exact ⟨by show s ≤ o.s; omega, o', h2, h3⟩
    · rintro ⟨h1, o', h2, h3⟩
      rcases hbet s o' h2 h1 with h4 | ⟨_, h5⟩
      · exact ⟨h4, o', h2, h3⟩
      · subst h5
        exact absurd h3 hb
theorem RJ.step (ok : h.Ok) (nm : ∀ e ∈ p.me, namesB e.1 = true) (H : RJ h p r) : RJ h p (r.step h p).2 := by
  unfold RSt.step followR
  cases hu : r.und with
  | none =>
    have hw : ∀ u, r.und = some u → u.waits = [] := fun u e => by rw [hu] at e; cases e
    simp only
    cases ha : aboveC h.cs r.place with
    | some o => exact H.move ok hw ha
    | none => exact (H.endS hw).1
  | some u =>
    simp only
    cases hg : u.waits.getLast? with
    | none =>
      have hw : ∀ v, r.und = some v → v.waits = [] := fun v e => by
        rw [hu] at e
        cases e
        exact List.getLast?_eq_none_iff.1 hg
      simp only
      cases ha : aboveC h.cs r.place with
      | some o => exact H.move ok hw ha
      | none => exact (H.endS hw).1
    | some s =>
      refine ⟨fun v e => ?_, H.en, ?_, fun s' => ?_⟩
      · have e' : v = u.follow h p r.sus s := by simpa using e.symm
        subst e'
        exact (H.un u hu).follow nm hg
      all_goals
        have hin : innsR { r with und := some (u.follow h p r.sus s) } = innsR r := by
          have hi : (u.follow h p r.sus s).inn = u.inn := (all_grow (h := h) (t := r.sus) nm (refsC h.cs s) (u := u.cut) (H.un u hu).ou).1.inn
          unfold innsR
          simp only [hu, hi]
      · rw [hin]; exact H.srt
      · rw [hin]; exact H.mem s'
end
/-- All rows. -/
structure Ends (h : HSt) (p : PSt) (t : Int) (l : List (Nat × List (Int × Nat))) : Prop where
  full : ∀ e ∈ l, Full h p t e
  srt : (l.map (·.1)).Pairwise (· < ·)
  mem : ∀ s, s ∈ l.map (·.1) ↔ ∃ o, getC h.cs s = some o ∧ 0 < o.d ∧ susO h p t s = true
theorem RJ.ends {h : HSt} {p : PSt} {r : RSt} (H : RJ h p r) (h1 : r.und = none) (h2 : aboveC h.cs r.place = none) : Ends h p r.sus r.ended := by
  have hi : innsR r = r.ended.map (·.1) := by
    unfold innsR
    rw [h1]
    simp
  refine ⟨H.en, by rw [← hi]; exact H.srt, fun s => ?_⟩
  rw [← hi, H.mem s]
  constructor
  · rintro ⟨_, o, h3, h4⟩
    unfold beginsB at h4
    rw [Bool.and_eq_true, decide_eq_true_eq] at h4
    rw [(getC_mem h3).2] at h4
    exact ⟨o, h3, h4.1, h4.2⟩
  · rintro ⟨o, h3, h4, h5⟩
    obtain ⟨h6, h7⟩ := getC_mem h3
    refine ⟨?_, o, h3, ?_⟩
    · have := above_none h2 o h6
      omega
    · unfold beginsB
      rw [Bool.and_eq_true, decide_eq_true_eq, h7]
      exact ⟨h4, h5⟩
theorem sorted_ext {α : Type} {f : α → Nat} : ∀ {l m : List α}, l.Pairwise (fun a b => f a < f b) → m.Pairwise (fun a b => f a < f b) → (∀ x, x ∈ l ↔ x ∈ m) → l = m
  | [], [], _, _, _ => rfl
  | [], b :: m, _, _, h => absurd ((h b).2 (List.mem_cons_self ..)) (by simp)
  | a :: l, [], _, _, h => absurd ((h a).1 (List.mem_cons_self ..)) (by simp)
  | a :: l, b :: m, hl, hm, h => by
    rw [List.pairwise_cons] at hl hm
    have e : a = b := by
      rcases List.mem_cons.1 ((h a).1 (List.mem_cons_self ..)) with h1 | h1
      · exact h1
      · rcases List.mem_cons.1 ((h b).2 (List.mem_cons_self ..)) with h2 | h2
        · exact h2.symm
        · have h3 := hm.1 a h1
          have h4 := hl.1 b h2
          omega
    subst e
    rw [sorted_ext hl.2 hm.2 (fun x => ⟨fun hx => ?_, fun hx => ?_⟩)]
    · rcases List.mem_cons.1 ((h x).1 (List.mem_cons_of_mem _ hx)) with h1 | h1
      · subst h1
        exact absurd (hl.1 x hx) (Nat.lt_irrefl _)
      · exact h1
    · rcases List.mem_cons.1 ((h x).2 (List.mem_cons_of_mem _ hx)) with h1 | h1
      · subst h1
        exact absurd (hm.1 x hx) (Nat.lt_irrefl _)
      · exact h1
theorem len_sub {α : Type} [DecidableEq α] : ∀ {l m : List α}, l.Nodup → (∀ x ∈ l, x ∈ m) → l.length ≤ m.length
  | [], _, _, _ => Nat.zero_le _
  | a :: l, m, hd, h => by
    rw [List.nodup_cons] at hd
    have ha := h a (List.mem_cons_self ..)
    have ih := len_sub (m := m.erase a) hd.2 (fun x hx => (List.mem_erase_of_ne (fun e => by subst e; exact hd.1 hx)).2 (h x (List.mem_cons_of_mem _ hx)))
    rw [List.length_erase_of_mem ha] at ih
    have := List.length_pos_of_mem ha
    rw [List.length_cons]
    omega
theorem OutL.pw {l : List (Int × Nat)} (h : OutL l) : l.Pairwise (fun a b => keyI a < keyI b) := by
  have h1 := h.srt
  unfold Srt kis at h1
  rw [List.pairwise_map] at h1
  exact h1.imp (fun e => by simpa [ltQ] using e)
theorem OutL.nd {l : List (Int × Nat)} (h : OutL l) : l.Nodup := h.pw.imp (fun e he => by subst he; exact absurd e (Nat.lt_irrefl _))
section
variable {h : HSt} {p : PSt} {t t' : Int} {l l' : List (Nat × List (Int × Nat))}
theorem susO_mono (ht : t ≤ t') {s : Nat} (hs : susO h p t' s = true) : susO h p t s = true := by
  unfold susO at *
  rw [Bool.and_eq_true, decide_eq_true_eq] at *
  exact ⟨hs.1, by omega⟩
theorem susI_mono (ht : t ≤ t') {x : Int × Nat} (hs : susI p t' x = true) : susI p t x = true := by
  unfold susI at *
  rw [Bool.and_eq_true, decide_eq_true_eq] at *
  exact ⟨hs.1, by omega⟩
theorem Led.mono (ht : t ≤ t') {s a : Nat} (H : Led h p t' s a) : Led h p t s a := by
  induction H with
  | base => exact Led.base
  | next _ h2 h3 ih => exact ih.next h2 (susO_mono ht h3)
theorem Tell.mono (ht : t ≤ t') {s : Nat} {x : Int × Nat} (H : Tell h p t' s x) : Tell h p t s x := by
  obtain ⟨a, h1, h2, h3, h4⟩ := H
  exact ⟨a, h1.mono ht, h2, h3, susI_mono ht h4⟩
/-- With a greater bound rows are fewer, and shorter. -/
theorem Ends.less (H : Ends h p t l) (H' : Ends h p t' l') (ht : t ≤ t') : ∀ e ∈ l', ∃ e' ∈ l, e'.1 = e.1 ∧ e.2.length ≤ e'.2.length := fun e he => by
  obtain ⟨o, h1, h2, h3⟩ := (H'.mem e.1).1 (List.mem_map_of_mem he)
  obtain ⟨e', he', hq⟩ := List.mem_map.1 ((H.mem e.1).2 ⟨o, h1, h2, susO_mono ht h3⟩)
  have hF := H.full e' he'
  have hF' := H'.full e he
  exact ⟨e', he', hq, len_sub hF'.ou.nd (fun x hx => (hF.mem x).2 (by rw [hq]; exact ((hF'.mem x).1 hx).mono ht))⟩
/-- They are told apart by nothing. -/
theorem Ends.uniq (H : Ends h p t l) (H' : Ends h p t l') : l = l' := by
  have hs : ∀ {m : List (Nat × List (Int × Nat))}, (m.map (·.1)).Pairwise (· < ·) → m.Pairwise (fun a b => a.1 < b.1) := fun e => List.pairwise_map.1 e
  have hsub : ∀ {m m' : List (Nat × List (Int × Nat))}, Ends h p t m → Ends h p t m' → ∀ e ∈ m, e ∈ m' := fun A A' e he => by
    obtain ⟨e', he', hq⟩ := List.mem_map.1 ((A'.mem e.1).2 ((A.mem e.1).1 (List.mem_map_of_mem he)))
    have hF := A.full e he
    have hF' := A'.full e' he'
    have e2 : e.2 = e'.2 := sorted_ext hF.ou.pw hF'.ou.pw (fun x => by rw [hF.mem, hF'.mem, hq])
    have e3 : e = e' := Prod.ext hq.symm e2
    rw [e3]
    exact he'
  exact sorted_ext (hs H.srt) (hs H'.srt) (fun x => ⟨hsub H H' x, hsub H' H x⟩)
end
end Go.Proofs.YtlabdbfmfejkaaaDoor

namespace Go.Proofs.YtlabdbfmfejkaaaDoor
open Go.RowKit

/-- Rows that were told, between two blocks, and nothing has written there since. -/
structure RLq (w : World) (lo hi : Nat) (v : Value) (l : List (Nat × List (Int × Nat))) : Prop where
  ex : ∃ w1 ts, RL w1 lo v ts ∧ ts.map (·.1) = l ∧ w1.heap.size = hi ∧ Kept w1 w (fun k => ¬ (lo ≤ k ∧ k < hi))
theorem RLq.of {w : World} {lo : Nat} {v : Value} {ts : List ((Nat × List (Int × Nat)) × Value)} (x : RL w lo v ts) : RLq w lo w.heap.size v (ts.map (·.1)) := ⟨w, ts, x, rfl, rfl, Kept.refl _ _⟩
theorem RLq.kept {w w' : World} {lo hi : Nat} {v : Value} {l : List (Nat × List (Int × Nat))} {S : Nat → Prop} (x : RLq w lo hi v l) (hk : Kept w w' S) (hs : ∀ k, lo ≤ k → k < hi → ¬ S k) : RLq w' lo hi v l := by
  obtain ⟨w1, ts, a, b, c, d⟩ := x.ex
  exact ⟨w1, ts, a, b, c, d.trans hk (fun i _ e f => hs i f.1 f.2 e)⟩
theorem RLq.rl {w : World} {lo hi : Nat} {v : Value} {l : List (Nat × List (Int × Nat))} (x : RLq w lo hi v l) : ∃ ts, RL w lo v ts ∧ ts.map (·.1) = l := by
  obtain ⟨w1, ts, a, b, c, d⟩ := x.ex
  exact ⟨ts, a.kept d (fun k h1 h2 e => e ⟨h1, by omega⟩), b⟩
theorem RL.at2 {w : World} {B : Nat} {v : Value} {ts : List ((Nat × List (Int × Nat)) × Value)} {l : List (Nat × List (Int × Nat))} (h : RL w B v ts) (e : ts.map (·.1) = l) : ∃ ao c, v = .slice ao l.length c ∧ l.length ≤ c ∧ c ≤ maxLen ∧ ∀ k (hk : k < l.length), ∃ g oa oc, ao = some ⟨g, 0, none⟩ ∧ g < w.heap.size ∧ w.cell? ⟨g, k * 2, none⟩ = some (.int .u64 (l[k].1 : Int)) ∧ w.cell? ⟨g, k * 2 + 1, none⟩ = some (.slice oa l[k].2.length oc) := by
  subst e
  obtain ⟨ao, c, rfl, h1, h2, h3⟩ := h.at
  refine ⟨ao, c, by rw [List.length_map], by rw [List.length_map]; exact h1, h2, fun k hk => ?_⟩
  have hk' : k < ts.length := by simpa using hk
  obtain ⟨g, rfl, _, h5, h6, h7⟩ := h3 k hk'
  obtain ⟨oa, oc, ho, _⟩ := (h.sr _ (List.getElem_mem hk')).slice
  rw [ho] at h7
  refine ⟨g, oa, oc, rfl, h5, ?_, ?_⟩
  · rw [List.getElem_map]; exact h6
  · rw [List.getElem_map]; exact h7
theorem RLq.le {w : World} {lo hi : Nat} {v : Value} {l : List (Nat × List (Int × Nat))} (x : RLq w lo hi v l) : hi ≤ w.heap.size := by
  obtain ⟨w1, ts, a, b, c, d⟩ := x.ex
  have := d.size
  omega
theorem step_sus (h : HSt) (p : PSt) (r : RSt) : (r.step h p).2.sus = r.sus := by
  have he : r.endS.sus = r.sus := by
    unfold RSt.endS
    cases r.und with
    | none => rfl
    | some u => rfl
  have hm : ∀ o, (moveS h p r o).sus = r.sus := fun o => by
    unfold moveS
    split
    · exact he
    · rfl
  unfold RSt.step followR
  cases hu : r.und with
  | none =>
    simp only
    cases ha : aboveC h.cs r.place with
    | some o => exact hm o
    | none => exact he
  | some u =>
    simp only
    cases hg : u.waits.getLast? with
    | none =>
      simp only
      cases ha : aboveC h.cs r.place with
      | some o => exact hm o
      | none => exact he
    | some s => rfl
/-- What a loop of steps keeps. -/
structure Stp (h : HSt) (p : PSt) (t : Int) (N E k : Nat) (r : RSt) : Prop where
  ri : RI r N
  rb : RB r (7 * k)
  rj : RJ h p r
  su : r.sus = t
  le : k + leftC N h r ≤ E
theorem Stp.new {h : HSt} {p : PSt} {N : Nat} (t : Int) (hl : h.cs.length ≤ N) (h0 : ∀ o ∈ h.cs, 1 ≤ o.s) : Stp h p t N (N * (N + 2)) 0 (RSt.new t) :=
  ⟨ri_new t N, RB.new t, RJ.new t h0, rfl, by have := left_newC hl t; omega⟩
theorem Stp.step {h : HSt} {p : PSt} {t : Int} {N E k : Nat} {r : RSt} (H : Stp h p t N E k r) (ok : h.Ok) (nm : ∀ e ∈ p.me, namesB e.1 = true) (hin : ∀ k o, getC h.cs k = some o → 1 ≤ k ∧ k ≤ N) (hs : (r.step h p).1 = true) : Stp h p t N E (k + 1) (r.step h p).2 := by
  obtain ⟨q1, q2, _⟩ := step_leftC (p := p) hin ok H.ri
  exact ⟨q1, (H.rb.step ok nm).mono (by omega), H.rj.step ok nm, (step_sus h p r).trans H.su, ends_more H.le (q2 hs)⟩
theorem Stp.stop {h : HSt} {p : PSt} {t : Int} {N E k : Nat} {r : RSt} (H : Stp h p t N E k r) (ok : h.Ok) (hin : ∀ k o, getC h.cs k = some o → 1 ≤ k ∧ k ≤ N) (hs : (r.step h p).1 = false) : (r.step h p).2 = r ∧ Ends h p t r.ended := by
  obtain ⟨_, _, q3⟩ := step_leftC (p := p) hin ok H.ri
  obtain ⟨a, b, c⟩ := q3 hs
  refine ⟨a, ?_⟩
  rw [← H.su]
  exact H.rj.ends b c
theorem Stp.lt {h : HSt} {p : PSt} {t : Int} {N E k : Nat} {r : RSt} (H : Stp h p t N E k r) : k ≤ E := by have := H.le; omega
theorem m2_one {h : HSt} (ok : h.Ok) : ∀ o ∈ h.cs, 1 ≤ o.s := fun o ho => (ok.le o ho).1
/-- The rows of the lesser bound, from at on, have a row for each of the other's, from i on. -/
def AtOk (l m : List (Nat × List (Int × Nat))) (at_ i : Nat) : Prop := ∀ j (_ : i ≤ j) (h2 : j < m.length), ∃ q, ∃ hq : q < l.length, at_ ≤ q ∧ l[q].1 = m[j].1 ∧ m[j].2.length ≤ l[q].2.length
theorem AtOk.new {l m : List (Nat × List (Int × Nat))} (h : ∀ e ∈ m, ∃ e' ∈ l, e'.1 = e.1 ∧ e.2.length ≤ e'.2.length) : AtOk l m 0 0 := fun j _ h2 => by
  obtain ⟨e', he, h3, h4⟩ := h m[j] (List.getElem_mem h2)
  obtain ⟨q, hq, rfl⟩ := List.getElem_of_mem he
  exact ⟨q, hq, Nat.zero_le _, h3, h4⟩
theorem AtOk.lt {l m : List (Nat × List (Int × Nat))} {a i : Nat} (h : AtOk l m a i) (hi : i < m.length) : a < l.length := by
  obtain ⟨q, hq, h1, _⟩ := h i (Nat.le_refl _) hi
  omega
theorem rise_lt {l : List (Nat × List (Int × Nat))} (h : (l.map (·.1)).Pairwise (· < ·)) {a b : Nat} (ha : a < l.length) (hb : b < l.length) (hab : a < b) : l[a].1 < l[b].1 := by
  rw [List.pairwise_map] at h
  exact List.pairwise_iff_getElem.1 h a b ha hb hab
theorem AtOk.next {l m : List (Nat × List (Int × Nat))} {a i : Nat} (h : AtOk l m a i) (hl : (l.map (·.1)).Pairwise (· < ·)) (hm : (m.map (·.1)).Pairwise (· < ·)) (hi : i < m.length) (ha : a < l.length) (hne : l[a].1 ≠ m[i].1) : AtOk l m (a + 1) i := fun j h1 h2 => by
  obtain ⟨q, hq, h3, h4, h5⟩ := h j h1 h2
  obtain ⟨q', hq', h3', h4', _⟩ := h i (Nat.le_refl _) hi
  refine ⟨q, hq, ?_, h4, h5⟩
  rcases Nat.lt_or_ge a q with h6 | h6
  · omega
  · have e : q = a := by omega
    subst e
    rcases Nat.lt_or_ge q q' with h7 | h7
    · have h8 := rise_lt hl hq hq' h7
      rcases Nat.lt_or_ge i j with h9 | h9
      · have := rise_lt hm hi h2 h9
        omega
      · have e : i = j := by omega
        subst e
        omega
    · have e : q' = q := by omega
      subst e
      exact absurd h4' hne
theorem AtOk.here {l m : List (Nat × List (Int × Nat))} {a i : Nat} (h : AtOk l m a i) (hl : (l.map (·.1)).Pairwise (· < ·)) (hi : i < m.length) (ha : a < l.length) (he : l[a].1 = m[i].1) : m[i].2.length ≤ l[a].2.length := by
  obtain ⟨q, hq, h3, h4, h5⟩ := h i (Nat.le_refl _) hi
  rcases Nat.lt_or_ge a q with h6 | h6
  · have := rise_lt hl ha hq h6
    omega
  · have e : q = a := by omega
    subst e
    exact h5
theorem AtOk.up {l m : List (Nat × List (Int × Nat))} {a i : Nat} (h : AtOk l m a i) : AtOk l m a (i + 1) := fun j h1 h2 => h j (by omega) h2
/-- The three that it got: so many of them. -/
structure Gt (h : HSt) (p : PSt) (bd : Nat → Int) (w : World) (gb : Nat) (X : Nat → Prop) (i : Nat) (vs : Nat → Value) : Prop where
  row : Row w gb 77 [if 0 < i then vs 0 else .slice none 0 0, if 1 < i then vs 1 else .slice none 0 0, if 2 < i then vs 2 else .slice none 0 0]
  it : ∀ j, j < i → ∃ l lo hi, RLq w lo hi (vs j) l ∧ gb < lo ∧ (∀ k, lo ≤ k → k < hi → X k) ∧ Ends h p (bd j) l
section
variable {h : HSt} {p : PSt} {bd : Nat → Int} {w w' : World} {gb : Nat} {X : Nat → Prop} {i : Nat} {vs : Nat → Value}
theorem Gt.kept {S : Nat → Prop} (x : Gt h p bd w gb X i vs) (hk : Kept w w' S) (hg : ¬ S gb) (hs : ∀ k, X k → ¬ S k) : Gt h p bd w' gb X i vs :=
  ⟨x.row.kept hk hg, fun j hj => by
    obtain ⟨l, lo, hi, a, b, c, d⟩ := x.it j hj
    exact ⟨l, lo, hi, a.kept hk (fun k h1 h2 => hs k (c k h1 h2)), b, c, d⟩⟩
theorem Gt.mono {Y : Nat → Prop} (x : Gt h p bd w gb X i vs) (hs : ∀ k, X k → Y k) : Gt h p bd w gb Y i vs :=
  ⟨x.row, fun j hj => by
    obtain ⟨l, lo, hi, a, b, c, d⟩ := x.it j hj
    exact ⟨l, lo, hi, a, b, fun k h1 h2 => hs k (c k h1 h2), d⟩⟩
theorem Gt.new (hr : Row w gb 77 [.slice none 0 0, .slice none 0 0, .slice none 0 0]) : Gt h p bd w gb X 0 vs := ⟨hr, fun _ hj => absurd hj (Nat.not_lt_zero _)⟩
theorem Gt.put {w1 : World} {v : Value} {ts : List ((Nat × List (Int × Nat)) × Value)} (x : Gt h p bd w gb X i vs) (hi : i < 3) (hB : Below w.heap.size w w1) (hr : RL w1 w.heap.size v ts) (he : Ends h p (bd i) (ts.map (·.1))) :
    Gt h p bd (w1.setCell ⟨gb, i, none⟩ v) gb (fun k => X k ∨ (w.heap.size ≤ k ∧ k < w1.heap.size)) (i + 1) (fun j => if j = i then v else vs j) := by
  have hgl := x.row.lt
  have hk := Kept.setCell w1 ⟨gb, i, none⟩ v
  refine ⟨?_, fun j hj => ?_⟩
  · have h1 := (x.row.below hB).set i v
    have e : ∀ (a b c : Value), ([a, b, c] : List Value).set i v = [if 0 = i then v else a, if 1 = i then v else b, if 2 = i then v else c] := fun a b c => by
      rcases i with _ | _ | _ | i
      · rfl
      · rfl
      · rfl
      · omega
    rw [e] at h1
    have e2 : ∀ k, k ≤ 2 → (if k = i then v else if k < i then vs k else Value.slice none 0 0) = (if k < i + 1 then (if k = i then v else vs k) else .slice none 0 0) := fun k _ => by
      by_cases a : k = i
      · rw [if_pos a, if_pos (by omega), if_pos a]
      · rw [if_neg a]
        by_cases b : k < i
        · rw [if_pos b, if_pos (by omega), if_neg a]
        · rw [if_neg b, if_neg (by omega)]
    rw [e2 0 (by omega), e2 1 (by omega), e2 2 (by omega)] at h1
    exact h1
  · by_cases e : j = i
    · subst e
      refine ⟨ts.map (·.1), w.heap.size, w1.heap.size, ?_, hgl, fun k h1 h2 => Or.inr ⟨h1, h2⟩, he⟩
      simp only [if_true]
      exact (RLq.of hr).kept hk (fun k h1 _ e => by simp only at e; omega)
    · simp only [if_neg e]
      obtain ⟨l, lo, hi', a, b, c, d⟩ := x.it j (by omega)
      refine ⟨l, lo, hi', (a.kept (kept_of_below hB (fun _ => False)) (fun _ _ _ => id)).kept hk (fun k h1 _ e => by simp only at e; omega), b, fun k h1 h2 => Or.inl (c k h1 h2), d⟩
end
end Go.Proofs.YtlabdbfmfejkaaaDoor

namespace Go.Proofs.YtlabdbfmfejkaaaDoor
open Go.RowKit
open Go.Sort hiding Below

theorem sum_pick (a b : Nat) (h1 : a < 9) (h2 : b < 9) : IntKind.i64.wrap ((a : Int) + (b : Int)) = (a : Int) + (b : Int) ∧ wrap64 ((a : Int) + (b : Int)) = (a : Int) + (b : Int) := by
  refine ⟨by rw [IntKind.wrap_i64]; omega, by rw [wrap64]; omega⟩
set_option maxRecDepth 20000 in
set_option maxHeartbeats 800000 in
theorem reachAgain_any {w : World} {vr vo vi vl : Value} {g : Gr} {xs : List Way} (a b : Int) (x : GI w vr vo vi g) (hT : TB w) (hl : WS w vl 5 cWay xs) (hR : ∀ y ∈ xs, y.Ok) :
    Calls Tryd.prog 7 #[.agg #[vr, vo, vi], vl, .int .i64 a, .int .i64 b] w fun e w' => e = .returned (.bool true) ∧ Below w.heap.size w w' := by
  obtain ⟨a1, c1, a2, c2, a3, c3, rfl, rfl, rfl⟩ := x.shape
  obtain ⟨lo, lc, rfl, _, _⟩ := hl.slice
  have hA : ∀ o, Below w.heap.size w (w.alloc o) := fun o => bel_alloc w o
  have hHp := fun o => heaps_at (x.below (hA o)) (hT.below (hA o)) 25 (by omega)
  have HL : Hid _ := hidden hl
  have HRW : Hid _ := hidden hR
  clear x hl hR
  go_enter Tryd.func7, Tryd.ntmps7
  go_wp2_with fail
  refine (hHp _).mono ?_
  rintro e w1 ⟨hb, rb, h, rfl, y1, m1⟩
  obtain ⟨wA, hwA⟩ : ∃ z, z = w.alloc (.cells #[.slice a1 g.refs.length c1, .slice a2 g.out.length c2, .slice a3 g.inn.length c3] 26) := ⟨_, rfl⟩
  rw [← hwA] at y1
  have hbA : Below w.heap.size w wA := by rw [hwA]; exact hA _
  have hTA : TB wA := hT.below hbA
  have HWL : Hid _ := hidden (HL.out.below hbA)
  clear hHp hwA hA hT
  have hok := y1.ok
  obtain ⟨N, hN⟩ : ∃ N, N = min g.refs.length 25 := ⟨_, rfl⟩
  rw [← hN] at m1
  have hla : h.last = N := m1.last
  have hN25 : N ≤ 25 := by omega
  have HIN : Hid (∀ k o, getC h.cs k = some o → 1 ≤ k ∧ k ≤ N) := m2_inC m1 hok
  have HRF : Hid (∀ s, ∀ x ∈ refsC h.cs s, x.2 < 18446744073709551616) := m2_u64 m1 hok (by omega)
  have HLN : Hid (h.cs.length ≤ N) := Nat.le_of_eq m1.len
  have HOK : Hid h.Ok := hok
  have hEE : N * (N + 2) ≤ 25 * 27 := Nat.mul_le_mul hN25 (by omega)
  obtain ⟨E, hE⟩ : ∃ E, E = N * (N + 2) := ⟨_, rfl⟩
  rw [← hE] at hEE
  have HEE : Hid (E ≤ 675) := hEE
  clear m1 hN hok hEE
  go_wp2_with fail
  refine (reknown_any _ (hTA.below (y1.bel.mono (Nat.le_refl _)))).mono ?_
  rintro e w2 ⟨rfl, b2⟩
  have hPt := painted_any (y1.read b2) HWL.out HRW.out (by omega)
  clear y1 b2 hTA hla HWL HRW HL
  go_wp2_with fail
  refine hPt.mono ?_
  rintro e w3 ⟨pb, qb, p, rfl, z3, K3⟩
  have H := hos_p4 wA wA.heap.size hb rb pb qb h h p p
  have hNw := H.rnew z3
  have HNM : Hid (∀ e ∈ p.me, namesB e.1 = true) := K3.nm
  clear hPt z3 K3
  go_wp2_with fail
  refine hNw.mono ?_
  rintro e w4 ⟨rfl, x4, b4⟩
  generalize w3.heap.size = xb at *
  clear hNw b4
  go_wp2_with fail
  refine (pick_any a 9 (by omega) (by omega) _).mono ?_
  rintro e _ ⟨rfl, rfl⟩
  go_wp2_with fail
  refine (pick_any b 9 (by omega) (by omega) _).mono ?_
  rintro e _ ⟨rfl, rfl⟩
  have hp1 := pickN_lt a 9 (by omega)
  have hp2 := pickN_lt b 9 (by omega)
  generalize pickN a 9 = s at *
  generalize pickN b 9 = d at *
  obtain ⟨hw1, hw2⟩ := sum_pick s d hp1 hp2
  clear hp1 hp2
  have hbg : wA.heap.size ≤ w4.heap.size := (x4.out H).bel.size
  obtain ⟨w6, hw6⟩ : ∃ z, z = (w4.alloc (.cells #[.slice none 0 0, .slice none 0 0, .slice none 0 0] 77)).alloc (.cells #[.int .i64 (s : Int), .int .i64 (s : Int), .int .i64 ((s : Int) + (d : Int))] 3) := ⟨_, rfl⟩
  have HW6 : Hid _ := hidden hw6
  have hz6 : w6.heap.size = w4.heap.size + 2 := by rw [hw6]; simp
  have hb6 : Below w4.heap.size w4 w6 := by rw [hw6]; exact (bel_alloc w4 _).trans ((bel_alloc _ _).mono (by simp))
  have hr1 : Row w6 w4.heap.size 77 [.slice none 0 0, .slice none 0 0, .slice none 0 0] := by
    rw [hw6]
    exact Row.below (heap_alloc_new w4 _) (bel_alloc _ _)
  have hr2 : Row w6 (w4.heap.size + 1) 3 [.int .i64 (s : Int), .int .i64 (s : Int), .int .i64 ((s : Int) + (d : Int))] := by
    rw [hw6]
    have := heap_alloc_new (w4.alloc (.cells #[.slice none 0 0, .slice none 0 0, .slice none 0 0] 77)) (.cells #[.int .i64 (s : Int), .int .i64 (s : Int), .int .i64 ((s : Int) + (d : Int))] 3)
    simp only [World.size_alloc] at this
    exact this
  have x6 := x4.grow H hb6
  have HX6 : Hid _ := hidden x6
  have HR1 : Hid _ := hidden hr1
  have HR2 : Hid _ := hidden hr2
  go_wp2
  rw [← hw6]
  clear x4 x6 hb6 hr1 hr2 hw6 HW6
  generalize w4.heap.size = gb at *
  have HZ : Hid (wA.heap.size ≤ gb ∧ w6.heap.size = gb + 2) := ⟨hbg, hz6⟩
  clear hbg hz6
  obtain ⟨bd, hbd⟩ : ∃ bd : Nat → Int, bd = fun j => if j < 2 then (s : Int) else (s : Int) + (d : Int) := ⟨_, rfl⟩
  have HBD : Hid (bd 0 = (s : Int) ∧ bd 1 = (s : Int) ∧ bd 2 = (s : Int) + (d : Int)) := by rw [hbd]; exact ⟨rfl, rfl, rfl⟩
  clear hbd
  go_loopw [64] (fun t wr => ∃ (i : Nat) (r : RSt) (X : Nat → Prop) (vs : Nat → Value), t = .int .i64 (i : Int) ∧ i ≤ 3 ∧ RcS (fun w X => P4 wA wA.heap.size w hb rb pb qb h h p p X) wr wA.heap.size xb hb pb r X ∧ X gb ∧ X (gb + 1) ∧ Gt h p bd wr gb X i vs ∧ Row wr (gb + 1) 3 [.int .i64 (s : Int), .int .i64 (s : Int), .int .i64 ((s : Int) + (d : Int))]) (fun t _ => 3 - (intOf t).toNat)
  case atStart => exact ⟨0, _, _, fun _ => .slice none 0 0, rfl, Nat.zero_le _, HX6.out, Or.inr ⟨Nat.le_refl _, by have := HZ.out.2; omega⟩, Or.inr ⟨Nat.le_succ _, by have := HZ.out.2; omega⟩, Gt.new HR1.out, HR2.out⟩
  case round =>
    clear HX6 HR1 HR2
    obtain ⟨i, r, X, vs, rfl, hi3, x, hXg, hXs, hG, hrow⟩ := hrel
    by_cases hi : i < 3
    · have hii : (i : Int) < 3 := by omega
      obtain ⟨tt, htt⟩ : ∃ tt, tt = bd i := ⟨_, rfl⟩
      have cI : wr.cell? ⟨gb + 1, i, none⟩ = some (.int .i64 tt) := by
        refine hrow.at i _ ?_
        rw [htt]
        obtain ⟨e0, e1, e2⟩ := HBD.out
        rcases i with _ | _ | _ | i
        · rw [e0]; rfl
        · rw [e1]; rfl
        · rw [e2]; rfl
        · omega
      have HTT : Hid (tt = bd i) := htt
      have hBe := x.begin H tt
      have HG : Hid _ := hidden hG
      have HROW : Hid _ := hidden hrow
      have HXX : Hid (X gb ∧ X (gb + 1)) := ⟨hXg, hXs⟩
      clear htt x hG hrow hXg hXs
      go_wp2_with fail
      refine hBe.mono ?_
      rintro e w5 ⟨rfl, x5, k5⟩
      have HX5 : Hid _ := hidden x5
      have HG5 : Hid _ := hidden (HG.out.kept k5 (fun e => e.2 HXX.out.1) (fun _ a e => e.2 a))
      have HR5 : Hid _ := hidden (HROW.out.kept k5 (fun e => e.2 HXX.out.2))
      clear hBe x5 k5 cI HG HROW
      go_wp2
      go_loopw [18] (fun t wr' => ∃ (k : Nat) (r : RSt), t = .int .i64 (k : Int) ∧ RcS (fun w X => P4 wA wA.heap.size w hb rb pb qb h h p p X) wr' wA.heap.size xb hb pb r X ∧ Stp h p tt N E k r ∧ Gt h p bd wr' gb X i vs ∧ Row wr' (gb + 1) 3 [.int .i64 (s : Int), .int .i64 (s : Int), .int .i64 ((s : Int) + (d : Int))]) (fun t _ => E + 1 - (intOf t).toNat)
      case atStart => exact ⟨0, RSt.new tt, rfl, HX5.out, by rw [hE]; exact Stp.new tt HLN.out (m2_one HOK.out), HG5.out, HR5.out⟩
      case round =>
        clear HX5 HG5 HR5
        obtain ⟨k, r, rfl, x, hst, hG, hrow⟩ := hrel
        have hke := hst.lt
        have hk2 : (k : Int) < 2000 := by have := HEE.out; omega
        have hS := x.step H HNM.out HRF.out hst.rb (by have := HEE.out; omega)
        have hq := hst.step HOK.out HNM.out HIN.out
        have hq2 := hst.stop HOK.out HIN.out
        have HRB : Hid (RB r (7 * k)) := hst.rb
        have HKE : Hid (k ≤ E) := hke
        have HG : Hid _ := hidden hG
        have HROW : Hid _ := hidden hrow
        generalize r.step h p = R at *
        obtain ⟨b, r2⟩ := R
        simp only at hS hq hq2
        cases b with
        | true =>
          have HST : Hid _ := hidden (hq rfl)
          clear x hst hke hq hq2 hG hrow
          go_wp2_with fail
          refine hS.mono ?_
          rintro e w6 ⟨rfl, x6, k6⟩
          have HX6 : Hid _ := hidden x6
          have HG6 : Hid _ := hidden (HG.out.kept k6 (fun e => e.2 HXX.out.1) (fun _ a e => e.2 a))
          have HR6 : Hid _ := hidden (HROW.out.kept k6 (fun e => e.2 HXX.out.2))
          clear hS x6 k6
          go_wp2
          go_roundw
          case rel => exact ⟨k + 1, r2, by go_num, HX6.out, HST.out, HG6.out, HR6.out⟩
          case measure => have := HKE.out; simp [intOf]; omega
        | false =>
          obtain ⟨e1, hen⟩ := hq2 rfl
          subst e1
          have HEN : Hid _ := hidden hen
          clear x hst hke hq hq2 hG hrow hen
          go_wp2_with fail
          refine hS.mono ?_
          rintro e w6 ⟨rfl, x6, k6⟩
          have hRo := x6.rows HRB.out (by have := HKE.out; have := HEE.out; omega)
          have HX6 : Hid _ := hidden x6
          have HG6 : Hid _ := hidden (HG.out.kept k6 (fun e => e.2 HXX.out.1) (fun _ a e => e.2 a))
          have HR6 : Hid _ := hidden (HROW.out.kept k6 (fun e => e.2 HXX.out.2))
          have hgl := HG6.out.row
          clear hS x6 k6
          go_wp2_with fail
          refine hRo.mono ?_
          rintro e w7 ⟨v, ts, rfl, hrl, hts, b7⟩
          obtain ⟨vao, vc, hv, _, _, _⟩ := own_slice hrl.ow
          subst hv
          have hg7 := hgl.below b7
          have fz := hg7.frozen i
          have cz := hg7.lt
          have HEN' : Hid (Ends h p (bd i) (ts.map (·.1))) := by
            rw [hts, ← HTT.out]
            exact HEN.out
          have HRL : Hid _ := hidden hrl
          have HB7 : Hid _ := hidden b7
          have c7 := hg7.cell i (by simp; omega)
          clear hRo hgl hrl hts b7 hg7
          go_wp2
          go_roundw
          case rel =>
            have x7 := HX6.out.grow H HB7.out
            refine ⟨i + 1, _, _, _, by go_num, by omega, x7.other H (Kept.setCell w7 ⟨gb, i, none⟩ _) (fun k e => ?_), Or.inl HXX.out.1, Or.inl HXX.out.2, HG6.out.put hi HB7.out HRL.out HEN'.out, (HR6.out.below HB7.out).kept (Kept.setCell w7 ⟨gb, i, none⟩ _) (fun e => by simp only at e; omega)⟩
            simp only at e
            subst e
            exact ⟨Or.inl HXX.out.1, HZ.out.1⟩
          case measure => simp [intOf]; omega
    · have e : i = 3 := by omega
      have hi33 : ¬ (i : Int) < 3 := by omega
      generalize wr = wc at *
      obtain ⟨l0, lo0, hi0, q0, _, _, E0⟩ := hG.it 0 (by omega)
      obtain ⟨l1, lo1, hi1, q1, _, _, E1⟩ := hG.it 1 (by omega)
      obtain ⟨l2, lo2, hi2, q2, _, _, E2⟩ := hG.it 2 (by omega)
      obtain ⟨bd0, bd1, bd2⟩ := HBD.out
      rw [bd0] at E0
      rw [bd1] at E1
      rw [bd2] at E2
      have e01 : l0 = l1 := E0.uniq E1
      subst e01
      have HAT : Hid (AtOk l0 l2 0 0) := AtOk.new (E0.less E2 (by omega))
      have HS0 : Hid ((l0.map (·.1)).Pairwise (· < ·)) := E0.srt
      have HS2 : Hid ((l2.map (·.1)).Pairwise (· < ·)) := E2.srt
      obtain ⟨ts0, R0, f0⟩ := q0.rl
      obtain ⟨ts1, R1, f1⟩ := q1.rl
      obtain ⟨ts2, R2, f2⟩ := q2.rl
      have hRow := hG.row
      have HEQ : Hid (∀ W, Below wc.heap.size wc W → Calls Tryd.prog 29 #[vs 0, vs 1] W fun e w' => e = .returned (.bool true) ∧ Below W.heap.size W w') := fun W hB => rowsEq_any ts0 ts1 _ _ lo0 lo1 W (R0.below hB) (R1.below hB) (f0.trans f1.symm)
      obtain ⟨ao0, c0, hv0, hc0, hm0, A0⟩ := R0.at2 f0
      obtain ⟨ao2, c2, hv2, hc2, hm2, A2⟩ := R2.at2 f2
      have HBX : Hid (Below w.heap.size w wc) := hbA.trans (((x.out H).bel).mono hbA.size)
      rw [if_pos (by omega), if_pos (by omega), if_pos (by omega), hv0, hv2] at hRow
      rw [hv0] at HEQ
      have HC : Hid (∀ W, Below wc.heap.size wc W → W.cell? ⟨gb, 0, none⟩ = some (.slice ao0 l0.length c0) ∧ W.cell? ⟨gb, 1, none⟩ = some (vs 1) ∧ W.cell? ⟨gb, 2, none⟩ = some (.slice ao2 l2.length c2)) := fun W hB => by
        have hW := hRow.below hB
        exact ⟨hW.at 0 _ rfl, hW.at 1 _ rfl, hW.at 2 _ rfl⟩
      have HA0 : Hid _ := hidden A0
      have HA2 : Hid _ := hidden A2
      unfold maxLen at hm0 hm2
      obtain ⟨n0, hn0⟩ : ∃ n, n = l0.length := ⟨_, rfl⟩
      obtain ⟨n2, hn2⟩ : ∃ n, n = l2.length := ⟨_, rfl⟩
      have HN : Hid (n0 = l0.length ∧ n2 = l2.length) := ⟨hn0, hn2⟩
      rw [← hn0] at HC HEQ hc0
      rw [← hn2] at HC hc2
      have HB0 : Hid (Below wc.heap.size wc wc) := Below.refl _ _
      clear x hXg hXs hG hrow q0 q1 q2 E0 E1 E2 bd0 bd1 bd2 R0 R1 R2 f0 f1 f2 hRow hv0 hv2 A0 A2 hn0 hn2 hi hi3 e
      generalize vs 1 = v1 at *
      go_wp2
      clear hi33
      go_loopw [8, 19, 20] (fun _ ta ti wr' => ∃ (at_ i : Nat), ta = .int .i64 (at_ : Int) ∧ ti = .int .i64 (i : Int) ∧ i ≤ n2 ∧ AtOk l0 l2 at_ i ∧ Below wc.heap.size wc wr') (fun _ _ ti _ => n2 - (intOf ti).toNat)
      case atStart => exact ⟨0, 0, rfl, rfl, Nat.zero_le _, HAT.out, HB0.out⟩
      case round =>
        clear HAT HB0
        obtain ⟨at_, i, rfl, rfl, hi2, hat, hbr⟩ := hrel
        have HBR : Hid _ := hidden hbr
        obtain ⟨c00, c01, c02⟩ := HC.out _ hbr
        by_cases hi : i < n2
        · have hii : (i : Int) < (n2 : Int) := by omega
          have HAT : Hid _ := hidden hat
          clear hat hbr c00 c01
          go_wp2
          clear c02
          go_loopw [19] (fun ta wr'' => ∃ (at_ : Nat), ta = .int .i64 (at_ : Int) ∧ AtOk l0 l2 at_ i ∧ Below wc.heap.size wc wr'') (fun ta _ => n0 - (intOf ta).toNat)
          case atStart => exact ⟨at_, rfl, HAT.out, HBR.out⟩
          case round =>
            clear HAT HBR
            obtain ⟨at_, rfl, hat, hbr⟩ := hrel
            have hi' : i < l2.length := by rw [← HN.out.2]; exact hi
            have ha' : at_ < l0.length := hat.lt hi'
            have ha : at_ < n0 := by rw [HN.out.1]; exact ha'
            have haa : (at_ : Int) < (n0 : Int) := by omega
            obtain ⟨c00, _, c02⟩ := HC.out _ hbr
            obtain ⟨g0, oa0, oc0, rfl, hg0, d0, d1⟩ := HA0.out at_ ha'
            obtain ⟨g2, oa2, oc2, rfl, hg2, u0, u1⟩ := HA2.out i hi'
            have d0 := (hbr.cell (p := ⟨g0, at_ * 2, none⟩) hg0).trans d0
            have d1 := (hbr.cell (p := ⟨g0, at_ * 2 + 1, none⟩) hg0).trans d1
            have u0 := (hbr.cell (p := ⟨g2, i * 2, none⟩) hg2).trans u0
            have u1 := (hbr.cell (p := ⟨g2, i * 2 + 1, none⟩) hg2).trans u1
            have HBR : Hid _ := hidden hbr
            by_cases he : l0[at_].1 = l2[i].1
            · have hle := hat.here HS0.out hi' ha' he
              have HAT : Hid _ := hidden hat
              rw [← he] at u0
              generalize l0[at_].1 = i0 at *
              generalize l0[at_].2.length = m0 at *
              generalize l2[i].2.length = m2 at *
              have hne : ((i0 : Int) != (i0 : Int)) = false := by simp
              have hgt : ¬ (m0 : Int) < (m2 : Int) := by omega
              have hge : ¬ (n0 : Int) ≤ (at_ : Int) := by omega
              clear hat he hbr
              go_wp2
              go_quiet (fail)
              go_wp2
              go_quiet (fail)
              go_wp2
              go_roundw
              case rel => exact ⟨at_, i + 1, rfl, by go_num, by omega, HAT.out.up, HBR.out.trans (below_drewN0 _ _ |>.mono HBR.out.size)⟩
              case measure => simp [intOf]; omega
            · have HNX : Hid _ := hidden (hat.next HS0.out HS2.out hi' ha' he)
              generalize l0[at_].1 = i0 at *
              generalize l2[i].1 = i2 at *
              have hne : ((i0 : Int) != (i2 : Int)) = true := by simp; omega
              clear hat he hbr
              go_wp2
              go_quiet (fail)
              go_wp2
              go_roundw
              case rel => exact ⟨at_ + 1, by go_num, HNX.out, HBR.out.trans (below_drewN0 _ _ |>.mono HBR.out.size)⟩
              case measure => simp [intOf]; omega
        · have hii : ¬ (i : Int) < (n2 : Int) := by omega
          have hE := HEQ.out
          clear hat hbr
          go_wp2_with fail
          refine (hE _ HBR.out).mono ?_
          rintro e w9 ⟨rfl, b9⟩
          go_wp2
          go_ret
          exact ⟨rfl, HBX.out.trans ((HBR.out.trans (b9.mono HBR.out.size)).mono HBX.out.size)⟩
end Go.Proofs.YtlabdbfmfejkaaaDoor

