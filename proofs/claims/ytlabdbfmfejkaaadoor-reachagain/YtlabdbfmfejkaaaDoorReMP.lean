import Derived.Test.YtlabdbfmfejkaaaDoorTbLP
import Derived.Test.YtlabdbfmfejkaaaDoorMkD
/- A reacher, reckoned: what a step does. No program's text is in it. -/
/- A reacher ends, reckoned. No program's text is in it. -/
/- What a reacher has told when it is through, reckoned. No program's text is in it. -/
/- Going round till nothing changes finds what suspect objects lead to, reckoned. No program's text is in it. -/
namespace Go.Proofs.YtlabdbfmfejkaaaDoor
open Go.RowKit

/-- Numbers as keys. -/
def ltQ (a b : Nat) : Bool := decide (a < b)
theorem koQ : KO ltQ := ⟨fun a => by simp [ltQ], fun a b c h1 h2 => by simp [ltQ] at *; omega, fun a b h1 h2 => by simp [ltQ] at *; omega⟩
/-- The keys of IDs. -/
def kis (l : List (Int × Nat)) : List Nat := l.map keyI
/-- Where an ID stands, or would; whether it is there; it is put there. -/
def posI (x : Int × Nat) (l : List (Int × Nat)) : Nat := posK ltQ (keyI x) (kis l)
def hasI (x : Int × Nat) (l : List (Int × Nat)) : Bool := hasK ltQ (keyI x) (kis l)
def meetL (l : List (Int × Nat)) (x : Int × Nat) : List (Int × Nat) := if hasI x l then l else l.take (posI x l) ++ (x :: l.drop (posI x l))
theorem posI_le (x : Int × Nat) (l : List (Int × Nat)) : posI x l ≤ l.length := by
  have := posK_le (lt := ltQ) (keyI x) (kis l)
  unfold kis at this
  rw [List.length_map] at this
  exact this
/-- Rising, and all name. -/
structure OutL (l : List (Int × Nat)) : Prop where
  srt : Srt ltQ (kis l)
  nm : ∀ x ∈ l, namesB x = true
theorem OutL.nil : OutL [] := ⟨List.Pairwise.nil, fun _ h => by cases h⟩
theorem mem_meet {l : List (Int × Nat)} {x : Int × Nat} (hl : OutL l) (hx : namesB x = true) (y : Int × Nat) : y ∈ meetL l x ↔ y ∈ l ∨ y = x := by
  unfold meetL
  split
  · next h =>
    have h1 := (hasK_iff koQ (keyI x) (kis l) hl.srt).1 h
    unfold kis at h1
    obtain ⟨z, hz, e⟩ := List.mem_map.1 h1
    have e2 := keyI_inj (hl.nm z hz) hx e
    subst e2
    constructor
    · exact Or.inl
    · rintro (h | rfl)
      · exact h
      · exact hz
  · have e : l = l.take (posI x l) ++ l.drop (posI x l) := (List.take_append_drop _ _).symm
    rw [List.mem_append, List.mem_cons]
    conv => rhs; rw [e, List.mem_append]
    constructor
    · rintro (h | rfl | h)
      · exact Or.inl (Or.inl h)
      · exact Or.inr rfl
      · exact Or.inl (Or.inr h)
    · rintro ((h | h) | rfl)
      · exact Or.inl h
      · exact Or.inr (Or.inr h)
      · exact Or.inr (Or.inl rfl)
theorem OutL.meet {l : List (Int × Nat)} (hl : OutL l) {x : Int × Nat} (hx : namesB x = true) : OutL (meetL l x) := by
  refine ⟨?_, fun y hy => ?_⟩
  · unfold meetL
    cases h : hasI x l with
    | true => rw [if_pos rfl]; exact hl.srt
    | false =>
      rw [if_neg (by simp)]
      have h1 := srt_ins koQ (keyI x) (kis l) hl.srt h
      unfold kis at *
      rw [List.map_append, List.map_cons, List.map_take, List.map_drop]
      exact h1
  · rcases (mem_meet hl hx y).1 hy with h | rfl
    · exact hl.nm y h
    · exact hx
theorem meet_len (l : List (Int × Nat)) (x : Int × Nat) : (meetL l x).length ≤ l.length + 1 := by
  unfold meetL
  split
  · omega
  · have := posI_le x l
    simp
    omega

/-- A row under way: with what it began, what is in it, what waits (the last one last), its Outs. -/
structure Und where
  inn : Nat
  row : List Nat
  waits : List Nat
  outs : List (Int × Nat)
def Und.put (u : Und) (s : Nat) : Und := if s ∈ u.row then u else { u with row := u.row ++ [s], waits := u.waits ++ [s] }
def Und.meet (u : Und) (x : Int × Nat) : Und := { u with outs := meetL u.outs x }
def Und.cut (u : Und) : Und := { u with waits := u.waits.dropLast }
def Und.new (s : Nat) : Und := ⟨s, [s], [s], []⟩
/-- A reacher: the bound, the place, the row under way, the rows that are ended. -/
structure RSt where
  sus : Int
  place : Nat
  und : Option Und
  ended : List (Nat × List (Int × Nat))
def RSt.new (t : Int) : RSt := ⟨t, 0, none, []⟩
/-- Is it suspect? -/
def susO (h : HSt) (p : PSt) (t : Int) (s : Nat) : Bool := (markR h p s).2.2 && decide (t < ((markR h p s).1 : Int))
def susI (p : PSt) (t : Int) (x : Int × Nat) : Bool := (metR p x).2 && decide (t < ((metR p x).1 : Int))
/-- One reference is looked at; all of them. -/
def Und.look (h : HSt) (p : PSt) (t : Int) (u : Und) (x : Int × Nat) : Und :=
  if x.1 = (h.node : Int) then (if susO h p t x.2 then u.put x.2 else u) else if susI p t x then u.meet x else u
def Und.all (h : HSt) (p : PSt) (t : Int) (u : Und) (l : List (Int × Nat)) : Und := l.foldl (fun u x => u.look h p t x) u
def refsC (cs : List Oc) (s : Nat) : List (Int × Nat) := match getC cs s with
  | none => []
  | some o => o.rf
def Und.follow (h : HSt) (p : PSt) (t : Int) (u : Und) (s : Nat) : Und := u.cut.all h p t (refsC h.cs s)
/-- The row under way is ended. -/
def RSt.endS (r : RSt) : RSt := match r.und with
  | none => r
  | some u => { r with und := none, ended := r.ended ++ [(u.inn, u.outs)] }
/-- The three things that a step may do. -/
def followR (h : HSt) (p : PSt) (r : RSt) : Option RSt := match r.und with
  | none => none
  | some u => match u.waits.getLast? with
    | none => none
    | some s => some { r with und := some (u.follow h p r.sus s) }
def beginsB (h : HSt) (p : PSt) (r : RSt) (o : Oc) : Bool := decide (0 < o.d) && susO h p r.sus o.s
def moveS (h : HSt) (p : PSt) (r : RSt) (o : Oc) : RSt := if beginsB h p r o then { r.endS with place := o.s, und := some (Und.new o.s) } else { r with place := o.s }
def RSt.step (h : HSt) (p : PSt) (r : RSt) : Bool × RSt := match followR h p r with
  | some r' => (true, r')
  | none => match aboveC h.cs r.place with
    | some o => (true, moveS h p r o)
    | none => (r.und.isSome, r.endS)

/-- What a row, a reacher keeps: so many things, at most. -/
structure UB (u : Und) (n : Nat) : Prop where
  rl : u.row.length ≤ n
  wl : u.waits.length ≤ n
  ol : u.outs.length ≤ n
  ws : ∀ s ∈ u.waits, s ≤ 72057594037927935
  ou : OutL u.outs
structure RB (r : RSt) (n : Nat) : Prop where
  ub : ∀ u, r.und = some u → UB u n
  el : r.ended.length ≤ n
  eo : ∀ e ∈ r.ended, OutL e.2 ∧ e.2.length ≤ n
theorem UB.mono {u : Und} {n m : Nat} (h : UB u n) (hn : n ≤ m) : UB u m := ⟨Nat.le_trans h.rl hn, Nat.le_trans h.wl hn, Nat.le_trans h.ol hn, h.ws, h.ou⟩
theorem RB.mono {r : RSt} {n m : Nat} (h : RB r n) (hn : n ≤ m) : RB r m := ⟨fun u e => (h.ub u e).mono hn, Nat.le_trans h.el hn, fun e he => ⟨(h.eo e he).1, Nat.le_trans (h.eo e he).2 hn⟩⟩
theorem RB.new (t : Int) : RB (RSt.new t) 0 := ⟨fun u e => (by cases e), Nat.zero_le _, fun e he => (by cases he)⟩
theorem UB.put {u : Und} {n : Nat} (h : UB u n) (s : Nat) (hs : s ≤ 72057594037927935) : UB (u.put s) (n + 1) := by
  unfold Und.put
  split
  · exact h.mono (by omega)
  · refine ⟨by have := h.rl; simp; omega, by have := h.wl; simp; omega, Nat.le_trans h.ol (by omega), fun q hq => ?_, h.ou⟩
    rcases List.mem_append.1 hq with hq | hq
    · exact h.ws q hq
    · rw [List.mem_singleton] at hq
      subst hq
      exact hs
theorem UB.meet {u : Und} {n : Nat} (h : UB u n) {x : Int × Nat} (hx : namesB x = true) : UB (u.meet x) (n + 1) :=
  ⟨Nat.le_trans h.rl (by omega), Nat.le_trans h.wl (by omega), by have h1 := meet_len u.outs x; have h2 := h.ol; show (meetL u.outs x).length ≤ n + 1; omega, h.ws, h.ou.meet hx⟩
theorem UB.cut {u : Und} {n : Nat} (h : UB u n) : UB u.cut n :=
  ⟨h.rl, by have := h.wl; show u.waits.dropLast.length ≤ n; simp; omega, h.ol, fun q hq => h.ws q ((List.dropLast_sublist _).subset hq), h.ou⟩
theorem UB.new (s : Nat) (hs : s ≤ 72057594037927935) : UB (Und.new s) 1 := ⟨Nat.le_refl _, Nat.le_refl _, Nat.zero_le _, fun q hq => by
  have e : q = s := by simpa [Und.new] using hq
  omega, OutL.nil⟩
theorem sus_there {h : HSt} {p : PSt} {t : Int} {s : Nat} (hs : susO h p t s = true) : ∃ o, getC h.cs s = some o := by
  unfold susO markR at hs
  cases hg : getC h.cs s with
  | none => rw [hg] at hs; cases hs
  | some o => exact ⟨o, rfl⟩
theorem sus_le {h : HSt} (ok : h.Ok) {p : PSt} {t : Int} {s : Nat} (hs : susO h p t s = true) : s ≤ 72057594037927935 := by
  obtain ⟨o, ho⟩ := sus_there hs
  obtain ⟨h1, h2⟩ := getC_mem ho
  have h3 := ok.le o h1
  have h4 := ok.last
  omega
theorem getA_key {κ β : Type} [DecidableEq κ] {l : List (κ × β)} {x : κ} {v : β} (h : getA l x = some v) : (x, v) ∈ l := by
  unfold getA at h
  obtain ⟨p, hp, e⟩ := Option.map_eq_some_iff.1 h
  have h1 := List.mem_of_find?_eq_some hp
  have h2 := List.find?_some hp
  simp only [decide_eq_true_eq] at h2
  subst h2 e
  exact h1
theorem sus_names {p : PSt} (nm : ∀ e ∈ p.me, namesB e.1 = true) {t : Int} {x : Int × Nat} (hx : susI p t x = true) : namesB x = true := by
  unfold susI metR at hx
  cases hg : getA p.me x with
  | none => rw [hg] at hx; cases hx
  | some r => exact nm _ (getA_key hg)
theorem UB.look {h : HSt} (ok : h.Ok) {p : PSt} (nm : ∀ e ∈ p.me, namesB e.1 = true) {t : Int} {u : Und} {n : Nat} (H : UB u n) (x : Int × Nat) : UB (u.look h p t x) (n + 1) := by
  unfold Und.look
  split
  · split
    · next hs => exact H.put _ (sus_le ok hs)
    · exact H.mono (by omega)
  · split
    · next hs => exact H.meet (sus_names nm hs)
    · exact H.mono (by omega)
theorem UB.all {h : HSt} (ok : h.Ok) {p : PSt} (nm : ∀ e ∈ p.me, namesB e.1 = true) {t : Int} (l : List (Int × Nat)) : ∀ {u : Und} {n : Nat}, UB u n → UB (u.all h p t l) (n + l.length) := by
  unfold Und.all
  induction l with
  | nil => intro u n H; exact H
  | cons x l ih =>
    intro u n H
    rw [List.foldl_cons, List.length_cons]
    exact (ih (H.look ok nm x)).mono (by omega)
theorem refsC_len {h : HSt} (ok : h.Ok) (s : Nat) : (refsC h.cs s).length ≤ 7 := by
  unfold refsC
  cases hg : getC h.cs s with
  | none => simp
  | some o => exact (ok.fl o (getC_mem hg).1).1
theorem UB.follow {h : HSt} (ok : h.Ok) {p : PSt} (nm : ∀ e ∈ p.me, namesB e.1 = true) {t : Int} {u : Und} {n : Nat} (H : UB u n) (s : Nat) : UB (u.follow h p t s) (n + 7) :=
  (H.cut.all ok nm (t := t) (refsC h.cs s)).mono (by have := refsC_len ok s; omega)
theorem RB.endS {r : RSt} {n : Nat} (H : RB r n) : RB r.endS (n + 1) := by
  unfold RSt.endS
  split
  · exact H.mono (by omega)
  · next u hu =>
    have hu' := H.ub u hu
    refine ⟨fun v e => (by cases e), by have := H.el; simp; omega, fun e he => ?_⟩
    rcases List.mem_append.1 he with he | he
    · exact ⟨(H.eo e he).1, Nat.le_trans (H.eo e he).2 (by omega)⟩
    · rw [List.mem_singleton] at he
      subst he
      exact ⟨hu'.ou, Nat.le_trans hu'.ol (by omega)⟩
theorem RB.move {h : HSt} (ok : h.Ok) {p : PSt} {r : RSt} {n : Nat} (H : RB r n) {o : Oc} (ho : o ∈ h.cs) : RB (moveS h p r o) (n + 1) := by
  unfold moveS
  split
  · have h1 := H.endS
    have h2 := ok.le o ho
    have h3 := ok.last
    exact ⟨fun u e => (by
      have e' : u = Und.new o.s := by simpa using e.symm
      subst e'
      exact (UB.new _ (by omega)).mono (by omega)), h1.el, h1.eo⟩
  · have h1 := H.mono (m := n + 1) (by omega)
    exact ⟨h1.ub, h1.el, h1.eo⟩
theorem RB.step {h : HSt} (ok : h.Ok) {p : PSt} (nm : ∀ e ∈ p.me, namesB e.1 = true) {r : RSt} {n : Nat} (H : RB r n) : RB (r.step h p).2 (n + 7) := by
  unfold RSt.step followR
  cases hu : r.und with
  | none =>
    simp only
    cases ha : aboveC h.cs r.place with
    | none => exact H.endS.mono (by omega)
    | some o => exact (H.move ok (above_mem ha).1).mono (by omega)
  | some u =>
    simp only
    cases hw : u.waits.getLast? with
    | none =>
      simp only
      cases ha : aboveC h.cs r.place with
      | none => exact H.endS.mono (by omega)
      | some o => exact (H.move ok (above_mem ha).1).mono (by omega)
    | some s => exact ⟨fun v e => (by
        have e' : v = u.follow h p r.sus s := by simpa using e.symm
        subst e'
        exact (H.ub u hu).follow ok nm s), Nat.le_trans H.el (by omega), fun e he => ⟨(H.eo e he).1, Nat.le_trans (H.eo e he).2 (by omega)⟩⟩
end Go.Proofs.YtlabdbfmfejkaaaDoor

namespace Go.Proofs.YtlabdbfmfejkaaaDoor
open Go.RowKit

theorem count_more {α : Type} {P Q : α → Bool} : ∀ {l : List α} (_ : ∀ x ∈ l, P x = true → Q x = true) {a : α} (_ : a ∈ l) (_ : Q a = true) (_ : P a = false), l.countP P + 1 ≤ l.countP Q
  | x :: l, h, a, ha, hq, hp => by
    have hm : l.countP P ≤ l.countP Q := List.countP_mono_left (fun y hy => h y (List.mem_cons_of_mem _ hy))
    rcases List.mem_cons.1 ha with rfl | ha
    · rw [List.countP_cons, List.countP_cons, hq, hp]
      simp
      omega
    · have ih := count_more (fun y hy => h y (List.mem_cons_of_mem _ hy)) ha hq hp
      rw [List.countP_cons, List.countP_cons]
      cases hx : P x with
      | true =>
        rw [h x (List.mem_cons_self ..) hx]
        simp
        omega
      | false => simp; omega
theorem nodup_len : ∀ (n : Nat) (l : List Nat), l.Nodup → (∀ x ∈ l, 1 ≤ x ∧ x ≤ n) → l.length ≤ n
  | 0, l, _, h => by
    cases l with
    | nil => exact Nat.le_refl _
    | cons a l => have := h a (by simp); omega
  | n + 1, l, hd, h => by
    have he := hd.erase (n + 1)
    have ih := nodup_len n (l.erase (n + 1)) he (fun x hx => by
      have h1 := (List.Nodup.mem_erase_iff hd).1 hx
      have h2 := h x h1.2
      omega)
    have hl := List.length_erase (a := n + 1) (l := l)
    split at hl <;> omega
/-- How many objects lie above. -/
def abN (cs : List Oc) (s : Nat) : Nat := cs.countP (fun o => decide (s < o.s))
theorem ab_some {cs : List Oc} {s : Nat} {o : Oc} (h : aboveC cs s = some o) : abN cs o.s + 1 ≤ abN cs s := by
  obtain ⟨h1, h2⟩ := above_mem h
  refine count_more (fun x _ hx => ?_) h1 (decide_eq_true h2) (decide_eq_false (Nat.lt_irrefl _))
  simp only [decide_eq_true_eq] at hx ⊢
  omega
/-- How much is left of a row. -/
def unL (n : Nat) (u : Und) : Nat := 1 + u.waits.length + (n - u.row.length)
def leftC (n : Nat) (h : HSt) (r : RSt) : Nat := abN h.cs r.place * (n + 2) + (match r.und with
  | none => 0
  | some u => unL n u)
/-- What a row keeps. -/
structure UI (u : Und) (n : Nat) : Prop where
  nd : u.row.Nodup
  rg : ∀ s ∈ u.row, 1 ≤ s ∧ s ≤ n
def RI (r : RSt) (n : Nat) : Prop := ∀ u, r.und = some u → UI u n
section
variable {h : HSt} {p : PSt} {t : Int} {u : Und} {n : Nat} {r : RSt}
theorem UI.put (H : UI u n) {s : Nat} (hs : 1 ≤ s ∧ s ≤ n) : UI (u.put s) n ∧ unL n (u.put s) = unL n u := by
  unfold Und.put
  split
  · exact ⟨H, rfl⟩
  · next hn =>
    have hnd : (u.row ++ [s]).Nodup := by
      rw [List.nodup_append]
      refine ⟨H.nd, by simp, fun a ha b hb => ?_⟩
      rw [List.mem_singleton] at hb
      subst hb
      exact fun e => hn (e ▸ ha)
    have hrg : ∀ x ∈ u.row ++ [s], 1 ≤ x ∧ x ≤ n := fun x hx => by
      rcases List.mem_append.1 hx with hx | hx
      · exact H.rg x hx
      · rw [List.mem_singleton] at hx
        subst hx
        exact hs
    refine ⟨⟨hnd, hrg⟩, ?_⟩
    have hl := nodup_len n _ hnd hrg
    simp only [List.length_append, List.length_singleton] at hl
    unfold unL
    simp only [List.length_append, List.length_singleton]
    omega
theorem UI.look (hin : ∀ k o, getC h.cs k = some o → 1 ≤ k ∧ k ≤ n) (H : UI u n) (x : Int × Nat) : UI (u.look h p t x) n ∧ unL n (u.look h p t x) = unL n u := by
  unfold Und.look
  split
  · split
    · next hs =>
      obtain ⟨o, ho⟩ := sus_there hs
      exact H.put (hin _ _ ho)
    · exact ⟨H, rfl⟩
  · split
    · exact ⟨⟨H.nd, H.rg⟩, rfl⟩
    · exact ⟨H, rfl⟩
theorem UI.all (hin : ∀ k o, getC h.cs k = some o → 1 ≤ k ∧ k ≤ n) (l : List (Int × Nat)) : ∀ {u : Und}, UI u n → UI (u.all h p t l) n ∧ unL n (u.all h p t l) = unL n u := by
  unfold Und.all
  induction l with
  | nil => intro u H; exact ⟨H, rfl⟩
  | cons x l ih =>
    intro u H
    rw [List.foldl_cons]
    have h1 := H.look hin (p := p) (t := t) x
    have h2 := ih h1.1
    exact ⟨h2.1, h2.2.trans h1.2⟩
theorem step_leftC (hin : ∀ k o, getC h.cs k = some o → 1 ≤ k ∧ k ≤ n) (ok : h.Ok) (H : RI r n) : RI (r.step h p).2 n ∧ ((r.step h p).1 = true → leftC n h (r.step h p).2 + 1 ≤ leftC n h r) ∧ ((r.step h p).1 = false → (r.step h p).2 = r ∧ r.und = none ∧ aboveC h.cs r.place = none) := by
  have hend : RI r.endS n := fun u e => by
    unfold RSt.endS at e
    cases hu : r.und with
    | none => rw [hu] at e; exact absurd (hu.symm.trans e) (by simp)
    | some v => rw [hu] at e; cases e
  have hmove : ∀ o, aboveC h.cs r.place = some o → RI (moveS h p r o) n ∧ leftC n h (moveS h p r o) + 1 ≤ leftC n h r := fun o ha => by
    have hm := above_mem ha
    have hr := hin o.s o (getC_of_mem ok hm.1)
    have hab := ab_some ha
    have hmul : abN h.cs o.s * (n + 2) + (n + 2) ≤ abN h.cs r.place * (n + 2) := by
      have := Nat.mul_le_mul_right (n + 2) hab
      rw [Nat.add_mul, Nat.one_mul] at this
      exact this
    unfold moveS
    split
    · refine ⟨fun u e => ?_, ?_⟩
      · have e' : u = Und.new o.s := by simpa using e.symm
        subst e'
        exact ⟨by simp [Und.new], fun s hs => by
          have e : s = o.s := by simpa [Und.new] using hs
          subst e
          exact hr⟩
      · unfold leftC unL
        simp only [Und.new, List.length_singleton]
        omega
    · refine ⟨H, ?_⟩
      unfold leftC
      simp only
      omega
  unfold RSt.step followR
  cases hu : r.und with
  | none =>
    simp only
    cases ha : aboveC h.cs r.place with
    | some o => exact ⟨(hmove o ha).1, fun _ => (hmove o ha).2, fun e => by cases e⟩
    | none =>
      refine ⟨hend, (fun e => by cases e), fun _ => ⟨?_, trivial, by first | rfl | trivial⟩⟩
      unfold RSt.endS
      rw [hu]
  | some u =>
    have hU := H u hu
    simp only
    cases hw : u.waits.getLast? with
    | none =>
      simp only
      cases ha : aboveC h.cs r.place with
      | some o => exact ⟨(hmove o ha).1, fun _ => (hmove o ha).2, fun e => by cases e⟩
      | none =>
        refine ⟨hend, fun _ => ?_, fun e => by cases e⟩
        unfold RSt.endS leftC
        rw [hu]
        simp only [unL]
        omega
    | some s =>
      have hc : UI u.cut n := ⟨hU.nd, hU.rg⟩
      have ha := hc.all hin (p := p) (t := r.sus) (refsC h.cs s)
      refine ⟨fun v e => ?_, fun _ => ?_, fun e => by cases e⟩
      · have e' : v = u.follow h p r.sus s := by simpa using e.symm
        subst e'
        exact ha.1
      · obtain ⟨l, hl⟩ := List.getLast?_eq_some_iff.1 hw
        have h2 : unL n (u.follow h p r.sus s) = unL n u.cut := ha.2
        have h3 : unL n u.cut + 1 = unL n u := by
          unfold unL Und.cut
          simp only [List.length_dropLast]
          rw [hl]
          simp
          omega
        unfold leftC
        rw [hu]
        simp only
        omega
end
theorem ab_le (cs : List Oc) (s : Nat) : abN cs s ≤ cs.length := List.countP_le_length
theorem left_newC {n : Nat} {h : HSt} (hl : h.cs.length ≤ n) (t : Int) : leftC n h (RSt.new t) ≤ n * (n + 2) := by
  show abN h.cs 0 * (n + 2) + 0 ≤ n * (n + 2)
  exact Nat.mul_le_mul_right _ (Nat.le_trans (ab_le _ _) hl)
theorem ri_new (t : Int) (n : Nat) : RI (RSt.new t) n := fun u e => by cases e
end Go.Proofs.YtlabdbfmfejkaaaDoor

namespace Go.Proofs.YtlabdbfmfejkaaaDoor
open Go.RowKit

/-- Suspect objects lead from s to a. -/
inductive Led (h : HSt) (p : PSt) (t : Int) (s : Nat) : Nat → Prop where
  | base : Led h p t s s
  | next {a b : Nat} : Led h p t s a → ((h.node : Int), b) ∈ refsC h.cs a → susO h p t b = true → Led h p t s b
/-- One reference is heeded. -/
def Heed (h : HSt) (p : PSt) (t : Int) (u : Und) (x : Int × Nat) : Prop := (x.1 = (h.node : Int) → susO h p t x.2 = true → x.2 ∈ u.row) ∧ (x.1 ≠ (h.node : Int) → susI p t x = true → x ∈ u.outs)
/-- The remote references that a row tells. -/
def Tell (h : HSt) (p : PSt) (t : Int) (s : Nat) (x : Int × Nat) : Prop := ∃ a, Led h p t s a ∧ x ∈ refsC h.cs a ∧ x.1 ≠ (h.node : Int) ∧ susI p t x = true
/-- A row under way. -/
structure UJ (h : HSt) (p : PSt) (t : Int) (u : Und) : Prop where
  ini : u.inn ∈ u.row
  led : ∀ a ∈ u.row, Led h p t u.inn a
  wr : ∀ a ∈ u.waits, a ∈ u.row
  dn : ∀ a ∈ u.row, a ∉ u.waits → ∀ x ∈ refsC h.cs a, Heed h p t u x
  ou : OutL u.outs
  snd : ∀ x ∈ u.outs, Tell h p t u.inn x
/-- A row that is through. -/
structure Full (h : HSt) (p : PSt) (t : Int) (e : Nat × List (Int × Nat)) : Prop where
  ou : OutL e.2
  mem : ∀ x, x ∈ e.2 ↔ Tell h p t e.1 x
section
variable {h : HSt} {p : PSt} {t : Int} {u : Und}
/-- What a look leaves. -/
structure Grow (u v : Und) : Prop where
  inn : v.inn = u.inn
  row : ∀ a ∈ u.row, a ∈ v.row
  waits : ∀ a ∈ u.waits, a ∈ v.waits
  outs : ∀ x ∈ u.outs, x ∈ v.outs
  new : ∀ a ∈ v.row, a ∈ u.row ∨ a ∈ v.waits
  wn : ∀ a ∈ v.waits, a ∈ u.waits ∨ a ∈ v.row
theorem Grow.rfl' : Grow u u := ⟨rfl, fun _ h => h, fun _ h => h, fun _ h => h, fun _ h => Or.inl h, fun _ h => Or.inl h⟩
theorem Grow.trans {u v w : Und} (a : Grow u v) (b : Grow v w) : Grow u w :=
  ⟨b.inn.trans a.inn, fun x hx => b.row x (a.row x hx), fun x hx => b.waits x (a.waits x hx), fun x hx => b.outs x (a.outs x hx),
   fun x hx => (b.new x hx).elim (fun h1 => (a.new x h1).elim Or.inl fun h2 => Or.inr (b.waits x h2)) Or.inr,
   fun x hx => (b.wn x hx).elim (fun h1 => (a.wn x h1).elim Or.inl fun h2 => Or.inr (b.row x h2)) Or.inr⟩
theorem Heed.grow {v : Und} {x : Int × Nat} (H : Heed h p t u x) (g : Grow u v) : Heed h p t v x :=
  ⟨fun a b => g.row _ (H.1 a b), fun a b => g.outs _ (H.2 a b)⟩
theorem look_grow (nm : ∀ e ∈ p.me, namesB e.1 = true) (ho : OutL u.outs) (x : Int × Nat) : Grow u (u.look h p t x) ∧ Heed h p t (u.look h p t x) x ∧ OutL (u.look h p t x).outs
    ∧ (∀ a ∈ (u.look h p t x).row, a ∈ u.row ∨ (x = ((h.node : Int), a) ∧ susO h p t a = true)) ∧ (∀ y ∈ (u.look h p t x).outs, y ∈ u.outs ∨ (y = x ∧ x.1 ≠ (h.node : Int) ∧ susI p t x = true)) := by
  unfold Und.look
  split
  · next hn =>
    split
    · next hs =>
      unfold Und.put
      split
      · next hm => exact ⟨Grow.rfl', ⟨fun _ _ => hm, fun a => absurd hn a⟩, ho, fun a ha => Or.inl ha, fun y hy => Or.inl hy⟩
      · refine ⟨⟨rfl, fun a ha => List.mem_append_left _ ha, fun a ha => List.mem_append_left _ ha, fun _ h => h, fun a ha => ?_, fun a ha => ?_⟩, ⟨fun _ _ => by simp, fun a => absurd hn a⟩, ho, fun a ha => ?_, fun y hy => Or.inl hy⟩
        · rcases List.mem_append.1 ha with ha | ha
          · exact Or.inl ha
          · exact Or.inr (List.mem_append_right _ ha)
        · rcases List.mem_append.1 ha with ha | ha
          · exact Or.inl ha
          · exact Or.inr (List.mem_append_right _ ha)
        · rcases List.mem_append.1 ha with ha | ha
          · exact Or.inl ha
          · rw [List.mem_singleton] at ha
            subst ha
            exact Or.inr ⟨Prod.ext hn rfl, hs⟩
    · next hs => exact ⟨Grow.rfl', ⟨fun _ b => absurd b hs, fun a => absurd hn a⟩, ho, fun a ha => Or.inl ha, fun y hy => Or.inl hy⟩
  · next hn =>
    split
    · next hs =>
      have hm := mem_meet ho (sus_names nm hs)
      exact ⟨⟨rfl, fun _ h => h, fun _ h => h, fun y hy => (hm y).2 (Or.inl hy), fun _ h => Or.inl h, fun _ h => Or.inl h⟩, ⟨fun a => absurd a hn, fun _ _ => (hm x).2 (Or.inr rfl)⟩, ho.meet (sus_names nm hs), fun a ha => Or.inl ha,
        fun y hy => ((hm y).1 hy).elim Or.inl fun e => Or.inr ⟨e, hn, hs⟩⟩
    · next hs => exact ⟨Grow.rfl', ⟨fun a => absurd a hn, fun _ b => absurd b hs⟩, ho, fun a ha => Or.inl ha, fun y hy => Or.inl hy⟩
theorem all_grow (nm : ∀ e ∈ p.me, namesB e.1 = true) : ∀ (l : List (Int × Nat)) {u : Und}, OutL u.outs → Grow u (u.all h p t l) ∧ (∀ x ∈ l, Heed h p t (u.all h p t l) x) ∧ OutL (u.all h p t l).outs
    ∧ (∀ a ∈ (u.all h p t l).row, a ∈ u.row ∨ (((h.node : Int), a) ∈ l ∧ susO h p t a = true)) ∧ (∀ y ∈ (u.all h p t l).outs, y ∈ u.outs ∨ (y ∈ l ∧ y.1 ≠ (h.node : Int) ∧ susI p t y = true))
  | [], u, ho => ⟨Grow.rfl', fun _ hx => (by cases hx), ho, fun a ha => Or.inl ha, fun y hy => Or.inl hy⟩
  | x :: l, u, ho => by
    obtain ⟨a1, a2, a3, a4, a5⟩ := look_grow (h := h) (t := t) nm ho x
    obtain ⟨b1, b2, b3, b4, b5⟩ := all_grow nm l a3
    have e : u.all h p t (x :: l) = (u.look h p t x).all h p t l := rfl
    rw [e]
    refine ⟨a1.trans b1, fun y hy => ?_, b3, fun a ha => ?_, fun y hy => ?_⟩
    · rcases List.mem_cons.1 hy with rfl | hy
      · exact a2.grow b1
      · exact b2 y hy
    · rcases b4 a ha with h1 | ⟨h1, h2⟩
      · rcases a4 a h1 with h3 | ⟨h3, h4⟩
        · exact Or.inl h3
        · exact Or.inr ⟨by rw [← h3]; exact List.mem_cons_self .., h4⟩
      · exact Or.inr ⟨List.mem_cons_of_mem _ h1, h2⟩
    · rcases b5 y hy with h1 | ⟨h1, h2⟩
      · rcases a5 y h1 with h3 | ⟨h3, h4, h5⟩
        · exact Or.inl h3
        · subst h3
          exact Or.inr ⟨List.mem_cons_self .., h4, h5⟩
      · exact Or.inr ⟨List.mem_cons_of_mem _ h1, h2⟩
theorem UJ.follow (nm : ∀ e ∈ p.me, namesB e.1 = true) (H : UJ h p t u) {s : Nat} (hs : u.waits.getLast? = some s) : UJ h p t (u.follow h p t s) := by
  obtain ⟨l, hl⟩ := List.getLast?_eq_some_iff.1 hs
  have hsr : s ∈ u.row := H.wr s (by rw [hl]; simp)
  have hc : u.cut.waits = l := by
    show u.waits.dropLast = l
    rw [hl]
    simp
  obtain ⟨b1, b2, b3, b4, b5⟩ := all_grow (h := h) (t := t) nm (refsC h.cs s) (u := u.cut) H.ou
  have hi : (u.follow h p t s).inn = u.inn := b1.inn
  refine ⟨?_, fun a ha => ?_, fun a ha => ?_, fun a ha hn x hx => ?_, b3, fun x hx => ?_⟩
  · rw [hi]
    exact b1.row _ H.ini
  · rw [hi]
    rcases b4 a ha with h1 | ⟨h1, h2⟩
    · exact H.led a h1
    · exact (H.led s hsr).next h1 h2
  · rcases b1.wn a ha with h1 | h1
    · exact b1.row a (H.wr a (by rw [hc] at h1; rw [hl]; exact List.mem_append_left _ h1))
    · exact h1
  · rcases b1.new a ha with h1 | h1
    · by_cases ha2 : a ∈ u.waits
      · rw [hl] at ha2
        rcases List.mem_append.1 ha2 with h3 | h3
        · exact absurd (b1.waits a (by rw [hc]; exact h3)) hn
        · rw [List.mem_singleton] at h3
          subst h3
          exact b2 x hx
      · have h4 := H.dn a h1 ha2 x hx
        have h5 : Heed h p t u.cut x := h4
        exact h5.grow b1
    · exact absurd h1 hn
  · rw [hi]
    rcases b5 x hx with h1 | ⟨h1, h2, h3⟩
    · exact H.snd x h1
    · exact ⟨s, H.led s hsr, h1, h2, h3⟩
theorem UJ.new (s : Nat) : UJ h p t (Und.new s) :=
  ⟨by simp [Und.new], fun a ha => by
    have e : a = s := by simpa [Und.new] using ha
    subst e
    exact Led.base, fun a ha => ha, fun a ha hn => absurd ha hn, OutL.nil, fun x hx => by cases hx⟩
theorem UJ.full (H : UJ h p t u) (hw : u.waits = []) : Full h p t (u.inn, u.outs) := by
  have hr : ∀ a, Led h p t u.inn a → a ∈ u.row := fun a ha => by
    induction ha with
    | base => exact H.ini
    | next _ h2 h3 ih => exact (H.dn _ ih (by rw [hw]; simp) _ h2).1 rfl h3
  refine ⟨H.ou, fun x => ⟨H.snd x, ?_⟩⟩
  rintro ⟨a, h1, h2, h3, h4⟩
  exact (H.dn a (hr a h1) (by rw [hw]; simp) x h2).2 h3 h4
end
/-- With what rows began. -/
def innsR (r : RSt) : List Nat := r.ended.map (·.1) ++ (match r.und with
  | none => []
  | some u => [u.inn])
/-- A reacher at any time. -/
structure RJ (h : HSt) (p : PSt) (r : RSt) : Prop where
  un : ∀ u, r.und = some u → UJ h p r.sus u
  en : ∀ e ∈ r.ended, Full h p r.sus e
  srt : (innsR r).Pairwise (· < ·)
  mem : ∀ s, s ∈ innsR r ↔ s ≤ r.place ∧ ∃ o, getC h.cs s = some o ∧ beginsB h p r o = true
section
variable {h : HSt} {p : PSt} {r : RSt}
theorem RJ.new (t : Int) (h0 : ∀ o ∈ h.cs, 1 ≤ o.s) : RJ h p (RSt.new t) :=
  ⟨fun u e => (by cases e), fun e he => (by cases he), List.Pairwise.nil, fun s => ⟨fun hs => (by cases hs), fun ⟨h1, o, h2, _⟩ => by
    obtain ⟨h3, h4⟩ := getC_mem h2
    have := h0 o h3
    have h1' : s ≤ 0 := h1
    omega⟩⟩
theorem inns_endS : innsR r.endS = innsR r := by
  unfold innsR RSt.endS
  cases hu : r.und with
  | none => simp only [hu]
  | some u => simp
theorem RJ.endS (H : RJ h p r) (hw : ∀ u, r.und = some u → u.waits = []) : RJ h p r.endS ∧ r.endS.und = none ∧ r.endS.sus = r.sus ∧ r.endS.place = r.place := by
  have hi := inns_endS (r := r)
  have hsp : r.endS.und = none ∧ r.endS.sus = r.sus ∧ r.endS.place = r.place := by
    unfold RSt.endS
    cases hu : r.und with
    | none => exact ⟨hu, rfl, rfl⟩
    | some u => exact ⟨rfl, rfl, rfl⟩
  obtain ⟨e1, e2, e3⟩ := hsp
  refine ⟨⟨fun u e => (by rw [e1] at e; cases e), fun e he => ?_, by rw [hi]; exact H.srt, fun s => ?_⟩, e1, e2, e3⟩
  · rw [e2]
    unfold RSt.endS at he
    cases hu : r.und with
    | none => rw [hu] at he; exact H.en e he
    | some u =>
      rw [hu] at he
      rcases List.mem_append.1 he with he | he
      · exact H.en e he
      · rw [List.mem_singleton] at he
        subst he
        exact (H.un u hu).full (hw u hu)
  · rw [hi, e3, H.mem s]
    unfold beginsB
    rw [e2]
theorem RJ.move (ok : h.Ok) (H : RJ h p r) (hw : ∀ u, r.und = some u → u.waits = []) {o : Oc} (ho : aboveC h.cs r.place = some o) : RJ h p (moveS h p r o) := by
  obtain ⟨hm, hl⟩ := above_mem ho
  have hgo := getC_of_mem ok hm
  have hbet : ∀ s o', getC h.cs s = some o' → s ≤ o.s → s ≤ r.place ∨ (s = o.s ∧ o' = o) := fun s o' hg hs => by
    obtain ⟨h1, h2⟩ := getC_mem hg
    by_cases h3 : s ≤ r.place
    · exact Or.inl h3
    · refine Or.inr ?_
      have h4 := above_least ok.srt ho o' h1 (by omega)
      have h5 : s = o.s := by omega
      subst h5
      rw [hgo] at hg
      exact ⟨rfl, (Option.some.inj hg).symm⟩
  obtain ⟨J, e1, e2, e3⟩ := H.endS hw
  unfold moveS
  split
  · next hb =>
    have hin : innsR { r.endS with place := o.s, und := some (Und.new o.s) } = innsR r ++ [o.s] := by
      rw [← inns_endS (r := r)]
      unfold innsR
      rw [e1]
      simp [Und.new]
    refine ⟨fun u e => ?_, J.en, ?_, fun s => ?_⟩
    · have e' : u = Und.new o.s := by simpa using e.symm
      subst e'
      exact UJ.new o.s
    · rw [hin, List.pairwise_append]
      refine ⟨H.srt, by simp, fun a ha b hb => ?_⟩
      rw [List.mem_singleton] at hb
      have := ((H.mem a).1 ha).1
      omega
    · rw [hin, List.mem_append, List.mem_singleton, H.mem s]
      have hbb : ∀ o', beginsB h p { r.endS with place := o.s, und := some (Und.new o.s) } o' = beginsB h p r o' := fun o' => by
        unfold beginsB
        show (decide (0 < o'.d) && susO h p r.endS.sus o'.s) = _
        rw [e2]
      constructor
      · rintro (⟨h1, o', h2, h3⟩ | rfl)
        · exact ⟨by show s ≤ o.s; omega, o', h2, by rw [hbb]; exact h3⟩
        · exact ⟨Nat.le_refl _, o, hgo, by rw [hbb]; exact hb⟩
      · rintro ⟨h1, o', h2, h3⟩
        rw [hbb] at h3
        rcases hbet s o' h2 h1 with h4 | ⟨h4, _⟩
        · exact Or.inl ⟨h4, o', h2, h3⟩
        · exact Or.inr h4
  · next hb =>
    refine ⟨H.un, H.en, H.srt, fun s => ?_⟩
    have hin : innsR { r with place := o.s } = innsR r := rfl
    rw [hin, H.mem s]
    constructor
    · rintro ⟨h1, o', h2, h3⟩
      exact ⟨by show s ≤ o.s; omega, o', h2, h3⟩
    · rintro ⟨h1, o', h2, h3⟩
      rcases hbet s o' h2 h1 with h4 | ⟨_, h5⟩
      · exact ⟨h4, o', h2, h3⟩
      · subst h5
        exact absurd h3 hb
theorem RJ.step (ok : h.Ok) (nm : ∀ e ∈ p.me, namesB e.1 = true) (H : RJ h p r) : RJ h p (r.step h p).2 := by
  unfold RSt.step followR
  cases hu : r.und with
  | none =>
    have hw : ∀ u, r.und = some u → u.waits = [] := fun u e => by rw [hu] at e; cases e
    simp only
    cases ha : aboveC h.cs r.place with
    | some o => exact H.move ok hw ha
    | none => exact (H.endS hw).1
  | some u =>
    simp only
    cases hg : u.waits.getLast? with
    | none =>
      have hw : ∀ v, r.und = some v → v.waits = [] := fun v e => by
        rw [hu] at e
        cases e
        exact List.getLast?_eq_none_iff.1 hg
      simp only
      cases ha : aboveC h.cs r.place with
      | some o => exact H.move ok hw ha
      | none => exact (H.endS hw).1
    | some s =>
      refine ⟨fun v e => ?_, H.en, ?_, fun s' => ?_⟩
      · have e' : v = u.follow h p r.sus s := by simpa using e.symm
        subst e'
        exact (H.un u hu).follow nm hg
      all_goals
        have hin : innsR { r with und := some (u.follow h p r.sus s) } = innsR r := by
          have hi : (u.follow h p r.sus s).inn = u.inn := (all_grow (h := h) (t := r.sus) nm (refsC h.cs s) (u := u.cut) (H.un u hu).ou).1.inn
          unfold innsR
          simp only [hu, hi]
      · rw [hin]; exact H.srt
      · rw [hin]; exact H.mem s'
end
/-- All rows. -/
structure Ends (h : HSt) (p : PSt) (t : Int) (l : List (Nat × List (Int × Nat))) : Prop where
  full : ∀ e ∈ l, Full h p t e
  srt : (l.map (·.1)).Pairwise (· < ·)
  mem : ∀ s, s ∈ l.map (·.1) ↔ ∃ o, getC h.cs s = some o ∧ 0 < o.d ∧ susO h p t s = true
theorem RJ.ends {h : HSt} {p : PSt} {r : RSt} (H : RJ h p r) (h1 : r.und = none) (h2 : aboveC h.cs r.place = none) : Ends h p r.sus r.ended := by
  have hi : innsR r = r.ended.map (·.1) := by
    unfold innsR
    rw [h1]
    simp
  refine ⟨H.en, by rw [← hi]; exact H.srt, fun s => ?_⟩
  rw [← hi, H.mem s]
  constructor
  · rintro ⟨_, o, h3, h4⟩
    unfold beginsB at h4
    rw [Bool.and_eq_true, decide_eq_true_eq] at h4
    rw [(getC_mem h3).2] at h4
    exact ⟨o, h3, h4.1, h4.2⟩
  · rintro ⟨o, h3, h4, h5⟩
    obtain ⟨h6, h7⟩ := getC_mem h3
    refine ⟨?_, o, h3, ?_⟩
    · have := above_none h2 o h6
      omega
    · unfold beginsB
      rw [Bool.and_eq_true, decide_eq_true_eq, h7]
      exact ⟨h4, h5⟩
theorem sorted_ext {α : Type} {f : α → Nat} : ∀ {l m : List α}, l.Pairwise (fun a b => f a < f b) → m.Pairwise (fun a b => f a < f b) → (∀ x, x ∈ l ↔ x ∈ m) → l = m
  | [], [], _, _, _ => rfl
  | [], b :: m, _, _, h => absurd ((h b).2 (List.mem_cons_self ..)) (by simp)
  | a :: l, [], _, _, h => absurd ((h a).1 (List.mem_cons_self ..)) (by simp)
  | a :: l, b :: m, hl, hm, h => by
    rw [List.pairwise_cons] at hl hm
    have e : a = b := by
      rcases List.mem_cons.1 ((h a).1 (List.mem_cons_self ..)) with h1 | h1
      · exact h1
      · rcases List.mem_cons.1 ((h b).2 (List.mem_cons_self ..)) with h2 | h2
        · exact h2.symm
        · have h3 := hm.1 a h1
          have h4 := hl.1 b h2
          omega
    subst e
    rw [sorted_ext hl.2 hm.2 (fun x => ⟨fun hx => ?_, fun hx => ?_⟩)]
    · rcases List.mem_cons.1 ((h x).1 (List.mem_cons_of_mem _ hx)) with h1 | h1
      · subst h1
        exact absurd (hl.1 x hx) (Nat.lt_irrefl _)
      · exact h1
    · rcases List.mem_cons.1 ((h x).2 (List.mem_cons_of_mem _ hx)) with h1 | h1
      · subst h1
        exact absurd (hm.1 x hx) (Nat.lt_irrefl _)
      · exact h1
theorem len_sub {α : Type} [DecidableEq α] : ∀ {l m : List α}, l.Nodup → (∀ x ∈ l, x ∈ m) → l.length ≤ m.length
  | [], _, _, _ => Nat.zero_le _
  | a :: l, m, hd, h => by
    rw [List.nodup_cons] at hd
    have ha := h a (List.mem_cons_self ..)
    have ih := len_sub (m := m.erase a) hd.2 (fun x hx => (List.mem_erase_of_ne (fun e => by subst e; exact hd.1 hx)).2 (h x (List.mem_cons_of_mem _ hx)))
    rw [List.length_erase_of_mem ha] at ih
    have := List.length_pos_of_mem ha
    rw [List.length_cons]
    omega
theorem OutL.pw {l : List (Int × Nat)} (h : OutL l) : l.Pairwise (fun a b => keyI a < keyI b) := by
  have h1 := h.srt
  unfold Srt kis at h1
  rw [List.pairwise_map] at h1
  exact h1.imp (fun e => by simpa [ltQ] using e)
theorem OutL.nd {l : List (Int × Nat)} (h : OutL l) : l.Nodup := h.pw.imp (fun e he => by subst he; exact absurd e (Nat.lt_irrefl _))
section
variable {h : HSt} {p : PSt} {t t' : Int} {l l' : List (Nat × List (Int × Nat))}
theorem susO_mono (ht : t ≤ t') {s : Nat} (hs : susO h p t' s = true) : susO h p t s = true := by
  unfold susO at *
  rw [Bool.and_eq_true, decide_eq_true_eq] at *
  exact ⟨hs.1, by omega⟩
theorem susI_mono (ht : t ≤ t') {x : Int × Nat} (hs : susI p t' x = true) : susI p t x = true := by
  unfold susI at *
  rw [Bool.and_eq_true, decide_eq_true_eq] at *
  exact ⟨hs.1, by omega⟩
theorem Led.mono (ht : t ≤ t') {s a : Nat} (H : Led h p t' s a) : Led h p t s a := by
  induction H with
  | base => exact Led.base
  | next _ h2 h3 ih => exact ih.next h2 (susO_mono ht h3)
theorem Tell.mono (ht : t ≤ t') {s : Nat} {x : Int × Nat} (H : Tell h p t' s x) : Tell h p t s x := by
  obtain ⟨a, h1, h2, h3, h4⟩ := H
  exact ⟨a, h1.mono ht, h2, h3, susI_mono ht h4⟩
/-- With a greater bound rows are fewer, and shorter. -/
theorem Ends.less (H : Ends h p t l) (H' : Ends h p t' l') (ht : t ≤ t') : ∀ e ∈ l', ∃ e' ∈ l, e'.1 = e.1 ∧ e.2.length ≤ e'.2.length := fun e he => by
  obtain ⟨o, h1, h2, h3⟩ := (H'.mem e.1).1 (List.mem_map_of_mem he)
  obtain ⟨e', he', hq⟩ := List.mem_map.1 ((H.mem e.1).2 ⟨o, h1, h2, susO_mono ht h3⟩)
  have hF := H.full e' he'
  have hF' := H'.full e he
  exact ⟨e', he', hq, len_sub hF'.ou.nd (fun x hx => (hF.mem x).2 (by rw [hq]; exact ((hF'.mem x).1 hx).mono ht))⟩
/-- They are told apart by nothing. -/
theorem Ends.uniq (H : Ends h p t l) (H' : Ends h p t l') : l = l' := by
  have hs : ∀ {m : List (Nat × List (Int × Nat))}, (m.map (·.1)).Pairwise (· < ·) → m.Pairwise (fun a b => a.1 < b.1) := fun e => List.pairwise_map.1 e
  have hsub : ∀ {m m' : List (Nat × List (Int × Nat))}, Ends h p t m → Ends h p t m' → ∀ e ∈ m, e ∈ m' := fun A A' e he => by
    obtain ⟨e', he', hq⟩ := List.mem_map.1 ((A'.mem e.1).2 ((A.mem e.1).1 (List.mem_map_of_mem he)))
    have hF := A.full e he
    have hF' := A'.full e' he'
    have e2 : e.2 = e'.2 := sorted_ext hF.ou.pw hF'.ou.pw (fun x => by rw [hF.mem, hF'.mem, hq])
    have e3 : e = e' := Prod.ext hq.symm e2
    rw [e3]
    exact he'
  exact sorted_ext (hs H.srt) (hs H'.srt) (fun x => ⟨hsub H H' x, hsub H' H x⟩)
end
end Go.Proofs.YtlabdbfmfejkaaaDoor

namespace Go.Proofs.YtlabdbfmfejkaaaDoor
open Go.RowKit

def HeedF (h : HSt) (p : PSt) (t : Int) (f : Nat → Bool) (x : Int × Nat) : Prop := x.1 = (h.node : Int) → susO h p t x.2 = true → f x.2 = true
def updF (f : Nat → Bool) (s : Nat) : Nat → Bool := fun a => if a = s then true else f a
/-- So far within a round: objects below i are through, and of i's references those below k. -/
structure CL (h : HSt) (p : PSt) (t : Int) (s n : Nat) (f0 f : Nat → Bool) (i k : Nat) : Prop where
  snd : ∀ a, f a = true → Led h p t s a ∧ a ≤ n
  ini : f s = true
  mono : ∀ a, f0 a = true → f a = true
  dn : ∀ j, j < i → f0 j = true → ∀ x ∈ refsC h.cs j, HeedF h p t f x
  dk : ∀ m, m < k → ∀ x, (refsC h.cs i)[m]? = some x → HeedF h p t f x
section
variable {h : HSt} {p : PSt} {t : Int} {s n : Nat} {f0 f : Nat → Bool} {i k : Nat}
theorem upd_more (f : Nat → Bool) (s a : Nat) (h : f a = true) : updF f s a = true := by
  unfold updF
  split
  · rfl
  · exact h
theorem HeedF.upd {x : Int × Nat} (H : HeedF h p t f x) (q : Nat) : HeedF h p t (updF f q) x := fun a b => upd_more f q _ (H a b)
theorem CL.look (H : CL h p t s n f0 f i k) (hin : ∀ k o, getC h.cs k = some o → 1 ≤ k ∧ k ≤ n) {x : Int × Nat} (hx : (refsC h.cs i)[k]? = some x) (hi : f i = true) (h1 : x.1 = (h.node : Int)) (h2 : susO h p t x.2 = true) : CL h p t s n f0 (updF f x.2) i (k + 1) := by
  refine ⟨fun a ha => ?_, upd_more _ _ _ H.ini, fun a ha => upd_more _ _ _ (H.mono a ha), fun j hj h0 y hy => (H.dn j hj h0 y hy).upd _, fun m hm y hy => ?_⟩
  · unfold updF at ha
    split at ha
    · next e =>
      subst e
      obtain ⟨o, ho⟩ := sus_there h2
      refine ⟨(H.snd i hi).1.next ?_ h2, (hin _ _ ho).2⟩
      rw [← h1]
      exact List.mem_of_getElem? hx
    · exact H.snd a ha
  · by_cases e : m = k
    · subst e
      rw [hx] at hy
      cases hy
      exact fun _ _ => by simp [updF]
    · exact (H.dk m (by omega) y hy).upd _
theorem CL.pass (H : CL h p t s n f0 f i k) {x : Int × Nat} (hx : (refsC h.cs i)[k]? = some x) (hno : ¬ (x.1 = (h.node : Int) ∧ susO h p t x.2 = true)) : CL h p t s n f0 f i (k + 1) :=
  ⟨H.snd, H.ini, H.mono, H.dn, fun m hm y hy => by
    by_cases e : m = k
    · subst e
      rw [hx] at hy
      cases hy
      exact fun a b => absurd ⟨a, b⟩ hno
    · exact H.dk m (by omega) y hy⟩
theorem CL.up (H : CL h p t s n f0 f i k) (hk : f i = false ∨ (refsC h.cs i).length ≤ k) : CL h p t s n f0 f (i + 1) 0 :=
  ⟨H.snd, H.ini, H.mono, fun j hj h0 x hx => by
    by_cases e : j = i
    · subst e
      rcases hk with hk | hk
      · rw [H.mono j h0] at hk
        cases hk
      · obtain ⟨m, hm, rfl⟩ := List.getElem_of_mem hx
        exact H.dk m (by omega) _ (List.getElem?_eq_getElem hm)
    · exact H.dn j (by omega) h0 x hx, fun m hm => absurd hm (Nat.not_lt_zero _)⟩
/-- How many it has found. -/
def cntF (n : Nat) (f : Nat → Bool) : Nat := (List.range (n + 1)).countP f
/-- Closed, or it has found more in each round. -/
structure CR (h : HSt) (p : PSt) (t : Int) (s n : Nat) (f : Nat → Bool) (r : Nat) : Prop where
  snd : ∀ a, f a = true → Led h p t s a ∧ a ≤ n
  ini : f s = true
  cl : (∀ a, f a = true → ∀ x ∈ refsC h.cs a, HeedF h p t f x) ∨ r + 1 ≤ cntF n f
theorem CR.cl0 (H : CR h p t s n f k) : CL h p t s n f f 1 0 ∨ ∃ a, a = 0 ∧ f a = true := by
  by_cases h0 : f 0 = true
  · exact Or.inr ⟨0, rfl, h0⟩
  · exact Or.inl ⟨H.snd, H.ini, fun _ e => e, fun j hj h1 => by
      have e : j = 0 := by omega
      subst e
      exact absurd h1 h0, fun m hm => absurd hm (Nat.not_lt_zero _)⟩
theorem CR.next {r : Nat} (H : CR h p t s n f0 r) (C : CL h p t s n f0 f (n + 1) 0) : CR h p t s n f (r + 1) := by
  refine ⟨C.snd, C.ini, ?_⟩
  by_cases hc : ∀ a, f a = true → f0 a = true
  · left
    intro a ha x hx
    exact C.dn a (by have := (C.snd a ha).2; omega) (hc a ha) x hx
  · rcases H.cl with h1 | h1
    · -- f0 is closed and sound: it is all that is led to
      exfalso
      apply hc
      intro a ha
      have hl := (C.snd a ha).1
      clear ha
      induction hl with
      | base => exact H.ini
      | next _ h3 h4 ih => exact h1 _ ih _ h3 rfl h4
    · right
      have ⟨a, ha⟩ := Classical.not_forall.1 hc
      have ⟨ha1, ha2⟩ := Classical.not_imp.1 ha
      have h2 := count_more (l := List.range (n + 1)) (P := f0) (Q := f) (fun x _ e => C.mono x e) (a := a) (List.mem_range.2 (by have := (C.snd a ha1).2; omega)) ha1 (by simpa using ha2)
      unfold cntF at *
      omega
theorem CR.new (hs : 1 ≤ s ∧ s ≤ n) : CR h p t s n (fun a => decide (a = s)) 0 := by
  refine ⟨fun a ha => ?_, by simp, Or.inr ?_⟩
  · simp only [decide_eq_true_eq] at ha
    subst ha
    exact ⟨Led.base, hs.2⟩
  · unfold cntF
    have := List.countP_pos_iff (p := fun a => decide (a = s)) (l := List.range (n + 1)) |>.2 ⟨s, List.mem_range.2 (by omega), by simp⟩
    omega
/-- After n rounds it is all that suspect objects lead to. -/
theorem CR.all (H : CR h p t s n f n) (h0 : f 0 = false) : ∀ a, f a = true ↔ Led h p t s a := by
  intro a
  refine ⟨fun ha => (H.snd a ha).1, fun hl => ?_⟩
  rcases H.cl with h1 | h1
  · induction hl with
    | base => exact H.ini
    | next _ h3 h4 ih => exact h1 _ ih _ h3 rfl h4
  · exfalso
    unfold cntF at h1
    rw [List.range_succ_eq_map, List.countP_cons, h0] at h1
    have := List.countP_le_length (p := f) (l := (List.range n).map Nat.succ)
    simp only [List.length_map, List.length_range] at this
    rw [if_neg (by simp)] at h1
    omega
end
end Go.Proofs.YtlabdbfmfejkaaaDoor
