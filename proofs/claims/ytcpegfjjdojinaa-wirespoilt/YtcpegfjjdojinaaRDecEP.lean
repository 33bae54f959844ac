import Derived.Test.YtcpegfjjdojinaaRDecC
import Derived.Test.YtcpegfjjdojinaaRDecD
import Derived.Test.YtcpegfjjdojinaaWReadAll
/- The plain Decode: what the fields are read as is what the fields are read as in the order of the flags. -/
/- The plain Decode: the chain of the fields is the fold of the flags. -/
namespace Go.Proofs.Ytcpegfjjdojinaa
open Go.RowKit

/-- Both have come as far, and without an error to the same. -/
structure Qr (x y : Msg × Nat × Nat) : Prop where
  pe : x.2 = y.2
  kd : x.1.kind = y.1.kind
  eq : x.2.2 = 0 → x.1 = y.1
theorem Qr.refl (x : Msg × Nat × Nat) : Qr x x := ⟨rfl, rfl, fun _ => rfl⟩
theorem Qr.trans {x y z : Msg × Nat × Nat} (h : Qr x y) (k : Qr y z) : Qr x z := ⟨h.pe.trans k.pe, h.kd.trans k.kd, fun e => (h.eq e).trans (k.eq (by rw [← h.pe]; exact e))⟩
theorem rF_wrong {L : List UInt8} {m : Msg} {f p e : Nat} (h : e ≠ 0) : (rF L m f p e).2 = (p, e) := by
  unfold rF
  by_cases h1 : f = 32
  · rw [if_pos h1]; exact rID_wrong h
  rw [if_neg h1]
  by_cases h2 : f = 4096
  · rw [if_pos h2]
    show (rIDs L p e).2 = _
    unfold rIDs
    rw [rNum_wrong h]
    rfl
  rw [if_neg h2]
  by_cases h3 : f = 16384
  · rw [if_pos h3]
    show (rList L p e).2 = _
    unfold rList
    rw [rNum_wrong h]
    rfl
  rw [if_neg h3]
  by_cases h4 : inByteB f = true
  · rw [if_pos h4]
    show (rByte L p e _).2 = _
    rw [rByte_wrong h]
  · rw [if_neg h4]
    show (rNum L p e _).2 = _
    rw [rNum_wrong h]
theorem rStep_wrong {L : List UInt8} {x : Msg × Nat × Nat} {f : Nat} (h : x.2.2 ≠ 0) : (rStep L x f).2 = x.2 := by
  unfold rStep
  split
  · rfl
  · exact rF_wrong h
theorem Qr.both {x y : Msg × Nat × Nat} (h : Qr x y) (L : List UInt8) (f : Nat) : Qr (rStep L x f) (rStep L y f) := by
  by_cases he : x.2.2 = 0
  · have e1 := h.eq he
    have e : x = y := Prod.ext e1 h.pe
    rw [e]
    exact Qr.refl _
  · have he2 : y.2.2 ≠ 0 := by rw [← h.pe]; exact he
    refine ⟨?_, ?_, ?_⟩
    · rw [rStep_wrong he, rStep_wrong he2]; exact h.pe
    · rw [(rStep_kind L x f).1, (rStep_kind L y f).1]; exact h.kd
    · intro e
      rw [rStep_wrong he] at e
      exact absurd e he
theorem Qr.next {x x' y : Msg × Nat × Nat} {L : List UInt8} {f : Nat} (h : Qr x y) (k : Qr x' (rStep L x f)) : Qr x' (rStep L y f) := k.trans (h.both L f)

theorem hasB_true {k : Int} {f : Nat} (h : hasB k f = true) : ¬ (hasF k &&& f = 0) := by
  unfold hasB at h
  simpa using h
theorem hasB_false {k : Int} {f : Nat} (h : hasB k f = false) : hasF k &&& f = 0 := by
  unfold hasB at h
  simpa using h

/-- A number that a Kind may have. -/
theorem linkN {L : List UInt8} {m m' : Msg} {p e f most : Nat} {N : Nat × Nat × Nat} {p' e' : Nat} (h1 : f ≠ 32) (h2 : f ≠ 4096) (h3 : f ≠ 16384) (hi : inByteB f = false) (ht : topF m.kind f = most) (hz : m.setF f 0 = m)
    (hN : N = optN (hasB m.kind f) L p e most) (hm : m' = m.setF f N.1) (hp : p' = N.2.1) (he : e' = N.2.2) : Qr (m', p', e') (rStep L (m, p, e) f) := by
  have e : (m', p', e') = rStep L (m, p, e) f := by
    subst hm hp he
    unfold optN at hN
    unfold rStep
    cases hb : hasB m.kind f with
    | true =>
      rw [hb, if_pos rfl] at hN
      rw [if_neg (hasB_true hb)]
      unfold rF
      rw [if_neg h1, if_neg h2, if_neg h3, if_neg (by rw [hi]; decide), ht]
      rw [hN]
    | false =>
      rw [hb, if_neg (by decide)] at hN
      rw [if_pos (hasB_false hb), hN, hz]
  rw [e]
  exact Qr.refl _
theorem link1 {L : List UInt8} {m m' : Msg} {p e f most : Nat} {N : Nat × Nat × Nat} {p' e' : Nat} (h1 : f ≠ 32) (h2 : f ≠ 4096) (h3 : f ≠ 16384) (hi : inByteB f = true) (ht : topF m.kind f = most) (hz : m.setF f 0 = m)
    (hN : N = opt1 (hasB m.kind f) L p e most) (hm : m' = m.setF f N.1) (hp : p' = N.2.1) (he : e' = N.2.2) : Qr (m', p', e') (rStep L (m, p, e) f) := by
  have e : (m', p', e') = rStep L (m, p, e) f := by
    subst hm hp he
    unfold opt1 at hN
    unfold rStep
    cases hb : hasB m.kind f with
    | true =>
      rw [hb, if_pos rfl] at hN
      rw [if_neg (hasB_true hb)]
      unfold rF
      rw [if_neg h1, if_neg h2, if_neg h3, if_pos hi, ht]
      rw [hN]
    | false =>
      rw [hb, if_neg (by decide)] at hN
      rw [if_pos (hasB_false hb), hN, hz]
  rw [e]
  exact Qr.refl _
theorem linkT {L : List UInt8} {m m' : Msg} {p e : Nat} {p' e' : Nat} (h : (hasB m.kind 32 = true ∧ m' = { m with tn := (rID L p e).1.1, ts := (rID L p e).1.2 } ∧ p' = (rID L p e).2.1 ∧ e' = (rID L p e).2.2) ∨ (hasB m.kind 32 = false ∧ m' = m ∧ p' = p ∧ e' = e)) : Qr (m', p', e') (rStep L (m, p, e) 32) := by
  rcases h with ⟨hb, rfl, rfl, rfl⟩ | ⟨hb, rfl, rfl, rfl⟩
  · unfold rStep
    rw [if_neg (hasB_true hb)]
    exact Qr.refl _
  · unfold rStep
    rw [if_pos (hasB_false hb)]
    exact Qr.refl _
theorem linkR {L : List UInt8} {m m' : Msg} {p e j : Nat} {N : Nat × Nat × Nat} {R : List (Int × Nat) × Nat × Nat} {p' e' : Nat} (hz : m.refs = []) (hN : N = optN (hasB m.kind 4096) L p e 2) (hR : R = rIn L j N.2.1 N.2.2) (hj : j ≤ N.1 ∧ (j = N.1 ∨ R.2.2 ≠ 0))
    (hm : m' = { m with refs := R.1 }) (hp : p' = R.2.1) (he : e' = R.2.2) : Qr (m', p', e') (rStep L (m, p, e) 4096) := by
  subst hm hp he
  unfold optN at hN
  unfold rStep
  cases hb : hasB m.kind 4096 with
  | true =>
    rw [hb, if_pos rfl] at hN
    rw [if_neg (hasB_true hb)]
    subst hR
    obtain ⟨q1, q2⟩ := rIn_end hj
    have e2 : rF L m 4096 p e = ({ m with refs := (rIDs L p e).1 }, (rIDs L p e).2) := rfl
    have e3 : rIDs L p e = rIn L N.1 N.2.1 N.2.2 := by rw [hN]; rfl
    show Qr _ (rF L m 4096 p e)
    rw [e2, e3]
    exact ⟨q1, rfl, fun h => by show ({ m with refs := _ } : Msg) = { m with refs := _ }; rw [q2 h]⟩
  | false =>
    rw [hb, if_neg (by decide)] at hN
    rw [if_pos (hasB_false hb)]
    subst hN
    have hj0 : j = 0 := Nat.le_zero.1 hj.1
    subst hj0
    subst hR
    have e2 : ({ m with refs := [] } : Msg) = m := Msg.norefs m hz
    show Qr (({ m with refs := [] } : Msg), p, e) (m, p, e)
    rw [e2]
    exact Qr.refl _
theorem linkL {L : List UInt8} {m m' : Msg} {p e j : Nat} {N : Nat × Nat × Nat} {R : List Nat × Nat × Nat} {p' e' : Nat} (hz : m.list = []) (hN : N = optN (hasB m.kind 16384) L p e 64) (hR : R = rLs L j N.2.1 N.2.2) (hj : j ≤ N.1 ∧ (j = N.1 ∨ R.2.2 ≠ 0))
    (hm : m' = { m with list := R.1 }) (hp : p' = R.2.1) (he : e' = R.2.2) : Qr (m', p', e') (rStep L (m, p, e) 16384) := by
  subst hm hp he
  unfold optN at hN
  unfold rStep
  cases hb : hasB m.kind 16384 with
  | true =>
    rw [hb, if_pos rfl] at hN
    rw [if_neg (hasB_true hb)]
    subst hR
    obtain ⟨q1, q2⟩ := rLs_end hj
    have e2 : rF L m 16384 p e = ({ m with list := (rList L p e).1 }, (rList L p e).2) := rfl
    have e3 : rList L p e = rLs L N.1 N.2.1 N.2.2 := by rw [hN]; rfl
    show Qr _ (rF L m 16384 p e)
    rw [e2, e3]
    exact ⟨q1, rfl, fun h => by show ({ m with list := _ } : Msg) = { m with list := _ }; rw [q2 h]⟩
  | false =>
    rw [hb, if_neg (by decide)] at hN
    rw [if_pos (hasB_false hb)]
    subst hN
    have hj0 : j = 0 := Nat.le_zero.1 hj.1
    subst hj0
    subst hR
    have e2 : ({ m with list := [] } : Msg) = m := Msg.nolist m hz
    show Qr (({ m with list := [] } : Msg), p, e) (m, p, e)
    rw [e2]
    exact Qr.refl _

/-- The plain order of the flags. -/
def plainF (k : Int) : List Nat := if k = 5 then [1, 2, 4, 8, 16, 32, 2048, 4096, 64, 128, 256, 512, 1024, 8192, 16384] else [1, 2, 4, 8, 16, 1024, 32, 2048, 4096, 64, 128, 256, 512, 8192, 16384]
theorem fold_filter (L : List UInt8) : ∀ (l : List Nat) (x : Msg × Nat × Nat), l.foldl (rStep L) x = (l.filter (hasB x.1.kind)).foldl (rStep L) x := by
  intro l
  induction l with
  | nil => intro x; rfl
  | cons f l ih =>
    intro x
    rw [List.foldl_cons, ih, (rStep_kind L x f).1]
    cases hb : hasB x.1.kind f with
    | true => rw [List.filter_cons_of_pos (by simpa using hb), List.foldl_cons]
    | false =>
      rw [List.filter_cons_of_neg (by simp [hb])]
      have e : rStep L x f = x := by unfold rStep; rw [if_pos (hasB_false hb)]
      rw [e]
theorem plain_tab : ∀ n : Nat, n ≤ 11 → (plainF (n : Int)).filter (hasB (n : Int)) = flds.filter (hasB (n : Int)) := by decide +kernel
theorem fold_plain (L : List UInt8) (x : Msg × Nat × Nat) (n : Nat) (hn : n ≤ 11) (hk : x.1.kind = (n : Int)) : (plainF x.1.kind).foldl (rStep L) x = rFs L 15 x := by
  rw [fold_filter, hk, plain_tab n hn, ← hk, ← fold_filter]
  rfl

end Go.Proofs.Ytcpegfjjdojinaa

namespace Go.Proofs.Ytcpegfjjdojinaa
open Go.RowKit

theorem Qr.step {L : List UInt8} {x0 x1 x2 x3 x4 x5 x6 x7 x8 x9 x10 x11 x12 x13 x14 x15 : Msg × Nat × Nat} {f1 f2 f3 f4 f5 f6 f7 f8 f9 f10 f11 f12 f13 f14 f15 : Nat}
    (q1 : Qr x1 (rStep L x0 f1)) (q2 : Qr x2 (rStep L x1 f2)) (q3 : Qr x3 (rStep L x2 f3)) (q4 : Qr x4 (rStep L x3 f4)) (q5 : Qr x5 (rStep L x4 f5)) (q6 : Qr x6 (rStep L x5 f6)) (q7 : Qr x7 (rStep L x6 f7)) (q8 : Qr x8 (rStep L x7 f8))
    (q9 : Qr x9 (rStep L x8 f9)) (q10 : Qr x10 (rStep L x9 f10)) (q11 : Qr x11 (rStep L x10 f11)) (q12 : Qr x12 (rStep L x11 f12)) (q13 : Qr x13 (rStep L x12 f13)) (q14 : Qr x14 (rStep L x13 f14)) (q15 : Qr x15 (rStep L x14 f15)) :
    Qr x15 ([f1, f2, f3, f4, f5, f6, f7, f8, f9, f10, f11, f12, f13, f14, f15].foldl (rStep L) x0) :=
  ((((((((((((((q1.next q2).next q3).next q4).next q5).next q6).next q7).next q8).next q9).next q10).next q11).next q12).next q13).next q14).next q15)

set_option maxRecDepth 20000 in
set_option maxHeartbeats 4000000 in
theorem fr_fold (L : List UInt8) (k a b : Int) (p e : Nat) (m' : Msg) (p' e' : Nat) (h : FR L k { zeroM with kind := k, frm := a, «to» := b } p e m' p' e') : Qr (m', p', e') ((plainF k).foldl (rStep L) ({ zeroM with kind := k, frm := a, «to» := b }, p, e)) := by
  unfold FR at h
  obtain ⟨m0, hm0⟩ : ∃ m0 : Msg, m0 = { zeroM with kind := k, frm := a, «to» := b } := ⟨_, rfl⟩
  rw [← hm0] at h ⊢
  have kd0 : m0.kind = k := by rw [hm0]
  obtain ⟨op, code, N1, m1, N2, m2, N3, m3, N4, m4, N5, m5, N6, m6, p6, e6, N7, m7, p7, e7, N8, m8, N9, j9, R9, m9, N10, m10, N11, m11, N12, m12, N13, m13, N14, m14, p14, e14, N15, m15, N16, j16, R16, m16, hh⟩ := h
  obtain ⟨ho, hc, hN1, hm1, hN2, hm2, hN3, hm3, hN4, hm4, hN5, hm5, hN6, h6, hN7, h7, hN8, hm8, hN9, hR9, hj9, hm9, hN10, hm10, hN11, hm11, hN12, hm12, hN13, hm13, hN14, h14, hN15, hm15, hN16, hR16, hj16, hm16, hm, hp, he⟩ := hh
  obtain ⟨c6, hm6⟩ : ∃ c : Int, m6 = { m5 with code := c } := h6.elim (fun h => ⟨_, h.2.1⟩) (fun h => ⟨m5.code, h.2.1⟩)
  obtain ⟨x7, y7, hm7⟩ : ∃ x y, m7 = { m6 with tn := x, ts := y } := h7.elim (fun h => ⟨_, _, h.2.1⟩) (fun h => ⟨m6.tn, m6.ts, h.2.1⟩)
  obtain ⟨c14, hm14⟩ : ∃ c : Int, m14 = { m13 with code := c } := h14.elim (fun h => ⟨_, h.2.1⟩) (fun h => ⟨m13.code, h.2.1⟩)
  have kd1 : m1.kind = k := by rw [hm1]; exact kd0
  have kd2 : m2.kind = k := by rw [hm2]; exact kd1
  have kd3 : m3.kind = k := by rw [hm3]; exact kd2
  have kd4 : m4.kind = k := by rw [hm4]; exact kd3
  have kd5 : m5.kind = k := by rw [hm5]; exact kd4
  have kd6 : m6.kind = k := by rw [hm6]; exact kd5
  have kd7 : m7.kind = k := by rw [hm7]; exact kd6
  have kd8 : m8.kind = k := by rw [hm8]; exact kd7
  have kd9 : m9.kind = k := by rw [hm9]; exact kd8
  have kd10 : m10.kind = k := by rw [hm10]; exact kd9
  have kd11 : m11.kind = k := by rw [hm11]; exact kd10
  have kd12 : m12.kind = k := by rw [hm12]; exact kd11
  have kd13 : m13.kind = k := by rw [hm13]; exact kd12
  have kd14 : m14.kind = k := by rw [hm14]; exact kd13
  have kd15 : m15.kind = k := by rw [hm15]; exact kd14
  have kd16 : m16.kind = k := by rw [hm16]; exact kd15
  have q1 : Qr (m1, N1.2.1, N1.2.2) (rStep L (m0, p, e) 1) := linkN (by decide) (by decide) (by decide) (by decide) ((congrArg (fun x => topF x 1) kd0).trans rfl) (by rw [hm0]; rfl) (by rw [kd0]; exact hN1) hm1 rfl rfl
  have q2 : Qr (m2, N2.2.1, N2.2.2) (rStep L (m1, N1.2.1, N1.2.2) 2) := linkN (by decide) (by decide) (by decide) (by decide) ((congrArg (fun x => topF x 2) kd1).trans rfl) (by rw [hm1, hm0]; rfl) (by rw [kd1]; exact hN2) hm2 rfl rfl
  have q3 : Qr (m3, N3.2.1, N3.2.2) (rStep L (m2, N2.2.1, N2.2.2) 4) := linkN (by decide) (by decide) (by decide) (by decide) ((congrArg (fun x => topF x 4) kd2).trans rfl) (by rw [hm2, hm1, hm0]; rfl) (by rw [kd2]; exact hN3) hm3 rfl rfl
  have q4 : Qr (m4, N4.2.1, N4.2.2) (rStep L (m3, N3.2.1, N3.2.2) 8) := link1 (by decide) (by decide) (by decide) (by decide) ((congrArg (fun x => topF x 8) kd3).trans ho.symm) (by rw [hm3, hm2, hm1, hm0]; rfl) (by rw [kd3]; exact hN4) hm4 rfl rfl
  have q5 : Qr (m5, N5.2.1, N5.2.2) (rStep L (m4, N4.2.1, N4.2.2) 16) := link1 (by decide) (by decide) (by decide) (by decide) ((congrArg (fun x => topF x 16) kd4).trans rfl) (by rw [hm4, hm3, hm2, hm1, hm0]; rfl) (by rw [kd4]; exact hN5) hm5 rfl rfl
  have q8 : Qr (m8, N8.2.1, N8.2.2) (rStep L (m7, p7, e7) 2048) := linkN (by decide) (by decide) (by decide) (by decide) ((congrArg (fun x => topF x 2048) kd7).trans rfl) (by rw [hm7, hm6, hm5, hm4, hm3, hm2, hm1, hm0]; rfl) (by rw [kd7]; exact hN8) hm8 rfl rfl
  have q10 : Qr (m10, N10.2.1, N10.2.2) (rStep L (m9, R9.2.1, R9.2.2) 64) := linkN (by decide) (by decide) (by decide) (by decide) ((congrArg (fun x => topF x 64) kd9).trans rfl) (by rw [hm9, hm8, hm7, hm6, hm5, hm4, hm3, hm2, hm1, hm0]; rfl) (by rw [kd9]; exact hN10) hm10 rfl rfl
  have q11 : Qr (m11, N11.2.1, N11.2.2) (rStep L (m10, N10.2.1, N10.2.2) 128) := link1 (by decide) (by decide) (by decide) (by decide) ((congrArg (fun x => topF x 128) kd10).trans rfl) (by rw [hm10, hm9, hm8, hm7, hm6, hm5, hm4, hm3, hm2, hm1, hm0]; rfl) (by rw [kd10]; exact hN11) hm11 rfl rfl
  have q12 : Qr (m12, N12.2.1, N12.2.2) (rStep L (m11, N11.2.1, N11.2.2) 256) := linkN (by decide) (by decide) (by decide) (by decide) ((congrArg (fun x => topF x 256) kd11).trans rfl) (by rw [hm11, hm10, hm9, hm8, hm7, hm6, hm5, hm4, hm3, hm2, hm1, hm0]; rfl) (by rw [kd11]; exact hN12) hm12 rfl rfl
  have q13 : Qr (m13, N13.2.1, N13.2.2) (rStep L (m12, N12.2.1, N12.2.2) 512) := link1 (by decide) (by decide) (by decide) (by decide) ((congrArg (fun x => topF x 512) kd12).trans rfl) (by rw [hm12, hm11, hm10, hm9, hm8, hm7, hm6, hm5, hm4, hm3, hm2, hm1, hm0]; rfl) (by rw [kd12]; exact hN13) hm13 rfl rfl
  have q15 : Qr (m15, N15.2.1, N15.2.2) (rStep L (m14, p14, e14) 8192) := linkN (by decide) (by decide) (by decide) (by decide) ((congrArg (fun x => topF x 8192) kd14).trans rfl) (by rw [hm14, hm13, hm12, hm11, hm10, hm9, hm8, hm7, hm6, hm5, hm4, hm3, hm2, hm1, hm0]; rfl) (by rw [kd14]; exact hN15) hm15 rfl rfl
  have q7 : Qr (m7, p7, e7) (rStep L (m6, p6, e6) 32) := linkT (by rw [hN7, ← kd6] at h7; exact h7)
  have q9 : Qr (m9, R9.2.1, R9.2.2) (rStep L (m8, N8.2.1, N8.2.2) 4096) := linkR (by rw [hm8, hm7, hm6, hm5, hm4, hm3, hm2, hm1, hm0]; rfl) (by rw [kd8]; exact hN9) hR9 hj9 hm9 rfl rfl
  have q16 : Qr (m16, R16.2.1, R16.2.2) (rStep L (m15, N15.2.1, N15.2.2) 16384) := linkL (by rw [hm15, hm14, hm13, hm12, hm11, hm10, hm9, hm8, hm7, hm6, hm5, hm4, hm3, hm2, hm1, hm0]; rfl) (by rw [kd15]; exact hN16) hR16 hj16 hm16 rfl rfl
  subst hm hp he
  by_cases h5 : k = 5
  · obtain ⟨e6m, e6p, e6e⟩ : m6 = m5 ∧ p6 = N5.2.1 ∧ e6 = N5.2.2 := h6.elim (fun h => absurd h5 h.1) (fun h => h.2)
    have q14 : Qr (m14, p14, e14) (rStep L (m13, N13.2.1, N13.2.2) 1024) := by
      rcases h14 with ⟨_, h, h1, h2⟩ | ⟨h, _⟩
      · refine link1 (most := code) (by decide) (by decide) (by decide) (by decide) ((congrArg (fun x => topF x 1024) kd13).trans hc.symm) ?_ (by rw [kd13]; exact hN14) h h1 h2
        rw [hm13, hm12, hm11, hm10, hm9, hm8, hm7, e6m, hm5, hm4, hm3, hm2, hm1, hm0]; rfl
      · exact absurd h5 h
    have e : plainF k = [1, 2, 4, 8, 16, 32, 2048, 4096, 64, 128, 256, 512, 1024, 8192, 16384] := by unfold plainF; rw [if_pos h5]
    rw [e]
    rw [e6m, e6p, e6e] at q7
    exact q1.step q2 q3 q4 q5 q7 q8 q9 q10 q11 q12 q13 q14 q15 q16
  · have q6 : Qr (m6, p6, e6) (rStep L (m5, N5.2.1, N5.2.2) 1024) := by
      rcases h6 with ⟨_, h, h1, h2⟩ | ⟨h, _⟩
      · exact link1 (most := code) (by decide) (by decide) (by decide) (by decide) ((congrArg (fun x => topF x 1024) kd5).trans hc.symm) (by rw [hm5, hm4, hm3, hm2, hm1, hm0]; rfl) (by rw [kd5]; exact hN6) h h1 h2
      · exact absurd h h5
    obtain ⟨e14m, e14p, e14e⟩ : m14 = m13 ∧ p14 = N13.2.1 ∧ e14 = N13.2.2 := h14.elim (fun h => absurd h.1 h5) (fun h => h.2)
    have e : plainF k = [1, 2, 4, 8, 16, 1024, 32, 2048, 4096, 64, 128, 256, 512, 8192, 16384] := by unfold plainF; rw [if_neg h5]
    rw [e]
    rw [e14m, e14p, e14e] at q15
    exact q1.step q2 q3 q4 q5 q6 q7 q8 q9 q10 q11 q12 q13 q15 q16

/-- The fields, read in the plain order, are read as in the order of the flags. -/
theorem fr_same (L : List UInt8) (n : Nat) (hn : n ≤ 11) (a b : Int) (p e : Nat) (m' : Msg) (p' e' : Nat) (h : FR L (n : Int) { zeroM with kind := (n : Int), frm := a, «to» := b } p e m' p' e') : Qr (m', p', e') (rFs L 15 ({ zeroM with kind := (n : Int), frm := a, «to» := b }, p, e)) := by
  have q := fr_fold L (n : Int) a b p e m' p' e' h
  rwa [show plainF (n : Int) = plainF (({ zeroM with kind := (n : Int), frm := a, «to» := b } : Msg), p, e).1.kind from rfl, fold_plain L _ n hn rfl] at q

end Go.Proofs.Ytcpegfjjdojinaa

