import Derived.Test.YtlabdbfmfejkaaaGreatDoorTbLP
import Derived.Test.YtlabdbfmfejkaaaGreatDoorPbDP
/- A reacher, reckoned: what a step does. No program's text is in it. -/
/- A reacher ends, reckoned. No program's text is in it. -/
namespace Go.Proofs.YtlabdbfmfejkaaaGreatDoor
open Go.RowKit

/-- Numbers as keys. -/
def ltQ (a b : Nat) : Bool := decide (a < b)
theorem koQ : KO ltQ := ⟨fun a => by simp [ltQ], fun a b c h1 h2 => by simp [ltQ] at *; omega, fun a b h1 h2 => by simp [ltQ] at *; omega⟩
/-- The keys of IDs. -/
def kis (l : List (Int × Nat)) : List Nat := l.map keyI
/-- Where an ID stands, or would; whether it is there; it is put there. -/
def posI (x : Int × Nat) (l : List (Int × Nat)) : Nat := posK ltQ (keyI x) (kis l)
def hasI (x : Int × Nat) (l : List (Int × Nat)) : Bool := hasK ltQ (keyI x) (kis l)
def meetL (l : List (Int × Nat)) (x : Int × Nat) : List (Int × Nat) := if hasI x l then l else l.take (posI x l) ++ (x :: l.drop (posI x l))
theorem posI_le (x : Int × Nat) (l : List (Int × Nat)) : posI x l ≤ l.length := by
  have := posK_le (lt := ltQ) (keyI x) (kis l)
  unfold kis at this
  rw [List.length_map] at this
  exact this
/-- Rising, and all name. -/
structure OutL (l : List (Int × Nat)) : Prop where
  srt : Srt ltQ (kis l)
  nm : ∀ x ∈ l, namesB x = true
theorem OutL.nil : OutL [] := ⟨List.Pairwise.nil, fun _ h => by cases h⟩
theorem mem_meet {l : List (Int × Nat)} {x : Int × Nat} (hl : OutL l) (hx : namesB x = true) (y : Int × Nat) : y ∈ meetL l x ↔ y ∈ l ∨ y = x := by
  unfold meetL
  split
  · next h =>
    have h1 := (hasK_iff koQ (keyI x) (kis l) hl.srt).1 h
    unfold kis at h1
    obtain ⟨z, hz, e⟩ := List.mem_map.1 h1
    have e2 := keyI_inj (hl.nm z hz) hx e
    subst e2
    constructor
    · exact Or.inl
    · rintro (h | rfl)
      · exact h
      · exact hz
  · have e : l = l.take (posI x l) ++ l.drop (posI x l) := (List.take_append_drop _ _).symm
    rw [List.mem_append, List.mem_cons]
    conv => rhs; rw [e, List.mem_append]
    constructor
    · rintro (h | rfl | h)
      · exact Or.inl (Or.inl h)
      · exact Or.inr rfl
      · exact Or.inl (Or.inr h)
    · rintro ((h | h) | rfl)
      · exact Or.inl h
      · exact Or.inr (Or.inr h)
      · exact Or.inr (Or.inl rfl)
theorem OutL.meet {l : List (Int × Nat)} (hl : OutL l) {x : Int × Nat} (hx : namesB x = true) : OutL (meetL l x) := by
  refine ⟨?_, fun y hy => ?_⟩
  · unfold meetL
    cases h : hasI x l with
    | true => rw [if_pos rfl]; exact hl.srt
    | false =>
      rw [if_neg (by simp)]
      have h1 := srt_ins koQ (keyI x) (kis l) hl.srt h
      unfold kis at *
      rw [List.map_append, List.map_cons, List.map_take, List.map_drop]
      exact h1
  · rcases (mem_meet hl hx y).1 hy with h | rfl
    · exact hl.nm y h
    · exact hx
theorem meet_len (l : List (Int × Nat)) (x : Int × Nat) : (meetL l x).length ≤ l.length + 1 := by
  unfold meetL
  split
  · omega
  · have := posI_le x l
    simp
    omega

/-- A row under way: with what it began, what is in it, what waits (the last one last), its Outs. -/
structure Und where
  inn : Nat
  row : List Nat
  waits : List Nat
  outs : List (Int × Nat)
def Und.put (u : Und) (s : Nat) : Und := if s ∈ u.row then u else { u with row := u.row ++ [s], waits := u.waits ++ [s] }
def Und.meet (u : Und) (x : Int × Nat) : Und := { u with outs := meetL u.outs x }
def Und.cut (u : Und) : Und := { u with waits := u.waits.dropLast }
def Und.new (s : Nat) : Und := ⟨s, [s], [s], []⟩
/-- A reacher: the bound, the place, the row under way, the rows that are ended. -/
structure RSt where
  sus : Int
  place : Nat
  und : Option Und
  ended : List (Nat × List (Int × Nat))
def RSt.new (t : Int) : RSt := ⟨t, 0, none, []⟩
/-- Is it suspect? -/
def susO (h : HSt) (p : PSt) (t : Int) (s : Nat) : Bool := (markR h p s).2.2 && decide (t < ((markR h p s).1 : Int))
def susI (p : PSt) (t : Int) (x : Int × Nat) : Bool := (metR p x).2 && decide (t < ((metR p x).1 : Int))
/-- One reference is looked at; all of them. -/
def Und.look (h : HSt) (p : PSt) (t : Int) (u : Und) (x : Int × Nat) : Und :=
  if x.1 = (h.node : Int) then (if susO h p t x.2 then u.put x.2 else u) else if susI p t x then u.meet x else u
def Und.all (h : HSt) (p : PSt) (t : Int) (u : Und) (l : List (Int × Nat)) : Und := l.foldl (fun u x => u.look h p t x) u
def refsC (cs : List Oc) (s : Nat) : List (Int × Nat) := match getC cs s with
  | none => []
  | some o => o.rf
def Und.follow (h : HSt) (p : PSt) (t : Int) (u : Und) (s : Nat) : Und := u.cut.all h p t (refsC h.cs s)
/-- The row under way is ended. -/
def RSt.endS (r : RSt) : RSt := match r.und with
  | none => r
  | some u => { r with und := none, ended := r.ended ++ [(u.inn, u.outs)] }
/-- The three things that a step may do. -/
def followR (h : HSt) (p : PSt) (r : RSt) : Option RSt := match r.und with
  | none => none
  | some u => match u.waits.getLast? with
    | none => none
    | some s => some { r with und := some (u.follow h p r.sus s) }
def beginsB (h : HSt) (p : PSt) (r : RSt) (o : Oc) : Bool := decide (0 < o.d) && susO h p r.sus o.s
def moveS (h : HSt) (p : PSt) (r : RSt) (o : Oc) : RSt := if beginsB h p r o then { r.endS with place := o.s, und := some (Und.new o.s) } else { r with place := o.s }
def RSt.step (h : HSt) (p : PSt) (r : RSt) : Bool × RSt := match followR h p r with
  | some r' => (true, r')
  | none => match aboveC h.cs r.place with
    | some o => (true, moveS h p r o)
    | none => (r.und.isSome, r.endS)

/-- What a row, a reacher keeps: so many things, at most. -/
structure UB (u : Und) (n : Nat) : Prop where
  rl : u.row.length ≤ n
  wl : u.waits.length ≤ n
  ol : u.outs.length ≤ n
  ws : ∀ s ∈ u.waits, s ≤ 72057594037927935
  ou : OutL u.outs
structure RB (r : RSt) (n : Nat) : Prop where
  ub : ∀ u, r.und = some u → UB u n
  el : r.ended.length ≤ n
  eo : ∀ e ∈ r.ended, OutL e.2 ∧ e.2.length ≤ n
theorem UB.mono {u : Und} {n m : Nat} (h : UB u n) (hn : n ≤ m) : UB u m := ⟨Nat.le_trans h.rl hn, Nat.le_trans h.wl hn, Nat.le_trans h.ol hn, h.ws, h.ou⟩
theorem RB.mono {r : RSt} {n m : Nat} (h : RB r n) (hn : n ≤ m) : RB r m := ⟨fun u e => (h.ub u e).mono hn, Nat.le_trans h.el hn, fun e he => ⟨(h.eo e he).1, Nat.le_trans (h.eo e he).2 hn⟩⟩
theorem RB.new (t : Int) : RB (RSt.new t) 0 := ⟨fun u e => (by cases e), Nat.zero_le _, fun e he => (by cases he)⟩
theorem UB.put {u : Und} {n : Nat} (h : UB u n) (s : Nat) (hs : s ≤ 72057594037927935) : UB (u.put s) (n + 1) := by
  unfold Und.put
  split
  · exact h.mono (by omega)
  · refine ⟨by have := h.rl; simp; omega, by have := h.wl; simp; omega, Nat.le_trans h.ol (by omega), fun q hq => ?_, h.ou⟩
    rcases List.mem_append.1 hq with hq | hq
    · exact h.ws q hq
    · rw [List.mem_singleton] at hq
      subst hq
      exact hs
theorem UB.meet {u : Und} {n : Nat} (h : UB u n) {x : Int × Nat} (hx : namesB x = true) : UB (u.meet x) (n + 1) :=
  ⟨Nat.le_trans h.rl (by omega), Nat.le_trans h.wl (by omega), by have h1 := meet_len u.outs x; have h2 := h.ol; show (meetL u.outs x).length ≤ n + 1; omega, h.ws, h.ou.meet hx⟩
theorem UB.cut {u : Und} {n : Nat} (h : UB u n) : UB u.cut n :=
  ⟨h.rl, by have := h.wl; show u.waits.dropLast.length ≤ n; simp; omega, h.ol, fun q hq => h.ws q ((List.dropLast_sublist _).subset hq), h.ou⟩
theorem UB.new (s : Nat) (hs : s ≤ 72057594037927935) : UB (Und.new s) 1 := ⟨Nat.le_refl _, Nat.le_refl _, Nat.zero_le _, fun q hq => by
  have e : q = s := by simpa [Und.new] using hq
  omega, OutL.nil⟩
theorem sus_there {h : HSt} {p : PSt} {t : Int} {s : Nat} (hs : susO h p t s = true) : ∃ o, getC h.cs s = some o := by
  unfold susO markR at hs
  cases hg : getC h.cs s with
  | none => rw [hg] at hs; cases hs
  | some o => exact ⟨o, rfl⟩
theorem sus_le {h : HSt} (ok : h.Ok) {p : PSt} {t : Int} {s : Nat} (hs : susO h p t s = true) : s ≤ 72057594037927935 := by
  obtain ⟨o, ho⟩ := sus_there hs
  obtain ⟨h1, h2⟩ := getC_mem ho
  have h3 := ok.le o h1
  have h4 := ok.last
  omega
theorem getA_key {κ β : Type} [DecidableEq κ] {l : List (κ × β)} {x : κ} {v : β} (h : getA l x = some v) : (x, v) ∈ l := by
  unfold getA at h
  obtain ⟨p, hp, e⟩ := Option.map_eq_some_iff.1 h
  have h1 := List.mem_of_find?_eq_some hp
  have h2 := List.find?_some hp
  simp only [decide_eq_true_eq] at h2
  subst h2 e
  exact h1
theorem sus_names {p : PSt} (nm : ∀ e ∈ p.me, namesB e.1 = true) {t : Int} {x : Int × Nat} (hx : susI p t x = true) : namesB x = true := by
  unfold susI metR at hx
  cases hg : getA p.me x with
  | none => rw [hg] at hx; cases hx
  | some r => exact nm _ (getA_key hg)
theorem UB.look {h : HSt} (ok : h.Ok) {p : PSt} (nm : ∀ e ∈ p.me, namesB e.1 = true) {t : Int} {u : Und} {n : Nat} (H : UB u n) (x : Int × Nat) : UB (u.look h p t x) (n + 1) := by
  unfold Und.look
  split
  · split
    · next hs => exact H.put _ (sus_le ok hs)
    · exact H.mono (by omega)
  · split
    · next hs => exact H.meet (sus_names nm hs)
    · exact H.mono (by omega)
theorem UB.all {h : HSt} (ok : h.Ok) {p : PSt} (nm : ∀ e ∈ p.me, namesB e.1 = true) {t : Int} (l : List (Int × Nat)) : ∀ {u : Und} {n : Nat}, UB u n → UB (u.all h p t l) (n + l.length) := by
  unfold Und.all
  induction l with
  | nil => intro u n H; exact H
  | cons x l ih =>
    intro u n H
    rw [List.foldl_cons, List.length_cons]
    exact (ih (H.look ok nm x)).mono (by omega)
theorem refsC_len {h : HSt} (ok : h.Ok) (s : Nat) : (refsC h.cs s).length ≤ 7 := by
  unfold refsC
  cases hg : getC h.cs s with
  | none => simp
  | some o => exact (ok.fl o (getC_mem hg).1).1
theorem UB.follow {h : HSt} (ok : h.Ok) {p : PSt} (nm : ∀ e ∈ p.me, namesB e.1 = true) {t : Int} {u : Und} {n : Nat} (H : UB u n) (s : Nat) : UB (u.follow h p t s) (n + 7) :=
  (H.cut.all ok nm (t := t) (refsC h.cs s)).mono (by have := refsC_len ok s; omega)
theorem RB.endS {r : RSt} {n : Nat} (H : RB r n) : RB r.endS (n + 1) := by
  unfold RSt.endS
  split
  · exact H.mono (by omega)
  · next u hu =>
    have hu' := H.ub u hu
    refine ⟨fun v e => (by cases e), by have := H.el; simp; omega, fun e he => ?_⟩
    rcases List.mem_append.1 he with he | he
    · exact ⟨(H.eo e he).1, Nat.le_trans (H.eo e he).2 (by omega)⟩
    · rw [List.mem_singleton] at he
      subst he
      exact ⟨hu'.ou, Nat.le_trans hu'.ol (by omega)⟩
theorem RB.move {h : HSt} (ok : h.Ok) {p : PSt} {r : RSt} {n : Nat} (H : RB r n) {o : Oc} (ho : o ∈ h.cs) : RB (moveS h p r o) (n + 1) := by
  unfold moveS
  split
  · have h1 := H.endS
    have h2 := ok.le o ho
    have h3 := ok.last
    exact ⟨fun u e => (by
      have e' : u = Und.new o.s := by simpa using e.symm
      subst e'
      exact (UB.new _ (by omega)).mono (by omega)), h1.el, h1.eo⟩
  · have h1 := H.mono (m := n + 1) (by omega)
    exact ⟨h1.ub, h1.el, h1.eo⟩
theorem RB.step {h : HSt} (ok : h.Ok) {p : PSt} (nm : ∀ e ∈ p.me, namesB e.1 = true) {r : RSt} {n : Nat} (H : RB r n) : RB (r.step h p).2 (n + 7) := by
  unfold RSt.step followR
  cases hu : r.und with
  | none =>
    simp only
    cases ha : aboveC h.cs r.place with
    | none => exact H.endS.mono (by omega)
    | some o => exact (H.move ok (above_mem ha).1).mono (by omega)
  | some u =>
    simp only
    cases hw : u.waits.getLast? with
    | none =>
      simp only
      cases ha : aboveC h.cs r.place with
      | none => exact H.endS.mono (by omega)
      | some o => exact (H.move ok (above_mem ha).1).mono (by omega)
    | some s => exact ⟨fun v e => (by
        have e' : v = u.follow h p r.sus s := by simpa using e.symm
        subst e'
        exact (H.ub u hu).follow ok nm s), Nat.le_trans H.el (by omega), fun e he => ⟨(H.eo e he).1, Nat.le_trans (H.eo e he).2 (by omega)⟩⟩
end Go.Proofs.YtlabdbfmfejkaaaGreatDoor

namespace Go.Proofs.YtlabdbfmfejkaaaGreatDoor
open Go.RowKit

theorem count_more {α : Type} {P Q : α → Bool} : ∀ {l : List α} (_ : ∀ x ∈ l, P x = true → Q x = true) {a : α} (_ : a ∈ l) (_ : Q a = true) (_ : P a = false), l.countP P + 1 ≤ l.countP Q
  | x :: l, h, a, ha, hq, hp => by
    have hm : l.countP P ≤ l.countP Q := List.countP_mono_left (fun y hy => h y (List.mem_cons_of_mem _ hy))
    rcases List.mem_cons.1 ha with rfl | ha
    · rw [List.countP_cons, List.countP_cons, hq, hp]
      simp
      omega
    · have ih := count_more (fun y hy => h y (List.mem_cons_of_mem _ hy)) ha hq hp
      rw [List.countP_cons, List.countP_cons]
      cases hx : P x with
      | true =>
        rw [h x (List.mem_cons_self ..) hx]
        simp
        omega
      | false => simp; omega
theorem nodup_len : ∀ (n : Nat) (l : List Nat), l.Nodup → (∀ x ∈ l, 1 ≤ x ∧ x ≤ n) → l.length ≤ n
  | 0, l, _, h => by
    cases l with
    | nil => exact Nat.le_refl _
    | cons a l => have := h a (by simp); omega
  | n + 1, l, hd, h => by
    have he := hd.erase (n + 1)
    have ih := nodup_len n (l.erase (n + 1)) he (fun x hx => by
      have h1 := (List.Nodup.mem_erase_iff hd).1 hx
      have h2 := h x h1.2
      omega)
    have hl := List.length_erase (a := n + 1) (l := l)
    split at hl <;> omega
/-- How many objects lie above. -/
def abN (cs : List Oc) (s : Nat) : Nat := cs.countP (fun o => decide (s < o.s))
theorem ab_some {cs : List Oc} {s : Nat} {o : Oc} (h : aboveC cs s = some o) : abN cs o.s + 1 ≤ abN cs s := by
  obtain ⟨h1, h2⟩ := above_mem h
  refine count_more (fun x _ hx => ?_) h1 (decide_eq_true h2) (decide_eq_false (Nat.lt_irrefl _))
  simp only [decide_eq_true_eq] at hx ⊢
  omega
/-- How much is left of a row. -/
def unL (n : Nat) (u : Und) : Nat := 1 + u.waits.length + (n - u.row.length)
def leftC (n : Nat) (h : HSt) (r : RSt) : Nat := abN h.cs r.place * (n + 2) + (match r.und with
  | none => 0
  | some u => unL n u)
/-- What a row keeps. -/
structure UI (u : Und) (n : Nat) : Prop where
  nd : u.row.Nodup
  rg : ∀ s ∈ u.row, 1 ≤ s ∧ s ≤ n
def RI (r : RSt) (n : Nat) : Prop := ∀ u, r.und = some u → UI u n
section
variable {h : HSt} {p : PSt} {t : Int} {u : Und} {n : Nat} {r : RSt}
theorem UI.put (H : UI u n) {s : Nat} (hs : 1 ≤ s ∧ s ≤ n) : UI (u.put s) n ∧ unL n (u.put s) = unL n u := by
  unfold Und.put
  split
  · exact ⟨H, rfl⟩
  · next hn =>
    have hnd : (u.row ++ [s]).Nodup := by
      rw [List.nodup_append]
      refine ⟨H.nd, by simp, fun a ha b hb => ?_⟩
      rw [List.mem_singleton] at hb
      subst hb
      exact fun e => hn (e ▸ ha)
    have hrg : ∀ x ∈ u.row ++ [s], 1 ≤ x ∧ x ≤ n := fun x hx => by
      rcases List.mem_append.1 hx with hx | hx
      · exact H.rg x hx
      · rw [List.mem_singleton] at hx
        subst hx
        exact hs
    refine ⟨⟨hnd, hrg⟩, ?_⟩
    have hl := nodup_len n _ hnd hrg
    simp only [List.length_append, List.length_singleton] at hl
    unfold unL
    simp only [List.length_append, List.length_singleton]
    omega
theorem UI.look (hin : ∀ k o, getC h.cs k = some o → 1 ≤ k ∧ k ≤ n) (H : UI u n) (x : Int × Nat) : UI (u.look h p t x) n ∧ unL n (u.look h p t x) = unL n u := by
  unfold Und.look
  split
  · split
    · next hs =>
      obtain ⟨o, ho⟩ := sus_there hs
      exact H.put (hin _ _ ho)
    · exact ⟨H, rfl⟩
  · split
    · exact ⟨⟨H.nd, H.rg⟩, rfl⟩
    · exact ⟨H, rfl⟩
theorem UI.all (hin : ∀ k o, getC h.cs k = some o → 1 ≤ k ∧ k ≤ n) (l : List (Int × Nat)) : ∀ {u : Und}, UI u n → UI (u.all h p t l) n ∧ unL n (u.all h p t l) = unL n u := by
  unfold Und.all
  induction l with
  | nil => intro u H; exact ⟨H, rfl⟩
  | cons x l ih =>
    intro u H
    rw [List.foldl_cons]
    have h1 := H.look hin (p := p) (t := t) x
    have h2 := ih h1.1
    exact ⟨h2.1, h2.2.trans h1.2⟩
theorem step_leftC (hin : ∀ k o, getC h.cs k = some o → 1 ≤ k ∧ k ≤ n) (ok : h.Ok) (H : RI r n) : RI (r.step h p).2 n ∧ ((r.step h p).1 = true → leftC n h (r.step h p).2 + 1 ≤ leftC n h r) ∧ ((r.step h p).1 = false → (r.step h p).2 = r ∧ r.und = none ∧ aboveC h.cs r.place = none) := by
  have hend : RI r.endS n := fun u e => by
    unfold RSt.endS at e
    cases hu : r.und with
    | none => rw [hu] at e; exact absurd (hu.symm.trans e) (by simp)
    | some v => rw [hu] at e; cases e
  have hmove : ∀ o, aboveC h.cs r.place = some o → RI (moveS h p r o) n ∧ leftC n h (moveS h p r o) + 1 ≤ leftC n h r := fun o ha => by
    have hm := above_mem ha
    have hr := hin o.s o (getC_of_mem ok hm.1)
    have hab := ab_some ha
    have hmul : abN h.cs o.s * (n + 2) + (n + 2) ≤ abN h.cs r.place * (n + 2) := by
      have := Nat.mul_le_mul_right (n + 2) hab
      rw [Nat.add_mul, Nat.one_mul] at this
      exact this
    unfold moveS
    split
    · refine ⟨fun u e => ?_, ?_⟩
      · have e' : u = Und.new o.s := by simpa using e.symm
        subst e'
        exact ⟨by simp [Und.new], fun s hs => by
          have e : s = o.s := by simpa [Und.new] using hs
          subst e
          exact hr⟩
      · unfold leftC unL
        simp only [Und.new, List.length_singleton]
        omega
    · refine ⟨H, ?_⟩
      unfold leftC
      simp only
      omega
  unfold RSt.step followR
  cases hu : r.und with
  | none =>
    simp only
    cases ha : aboveC h.cs r.place with
    | some o => exact ⟨(hmove o ha).1, fun _ => (hmove o ha).2, fun e => by cases e⟩
    | none =>
      refine ⟨hend, (fun e => by cases e), fun _ => ⟨?_, trivial, by first | rfl | trivial⟩⟩
      unfold RSt.endS
      rw [hu]
  | some u =>
    have hU := H u hu
    simp only
    cases hw : u.waits.getLast? with
    | none =>
      simp only
      cases ha : aboveC h.cs r.place with
      | some o => exact ⟨(hmove o ha).1, fun _ => (hmove o ha).2, fun e => by cases e⟩
      | none =>
        refine ⟨hend, fun _ => ?_, fun e => by cases e⟩
        unfold RSt.endS leftC
        rw [hu]
        simp only [unL]
        omega
    | some s =>
      have hc : UI u.cut n := ⟨hU.nd, hU.rg⟩
      have ha := hc.all hin (p := p) (t := r.sus) (refsC h.cs s)
      refine ⟨fun v e => ?_, fun _ => ?_, fun e => by cases e⟩
      · have e' : v = u.follow h p r.sus s := by simpa using e.symm
        subst e'
        exact ha.1
      · obtain ⟨l, hl⟩ := List.getLast?_eq_some_iff.1 hw
        have h2 : unL n (u.follow h p r.sus s) = unL n u.cut := ha.2
        have h3 : unL n u.cut + 1 = unL n u := by
          unfold unL Und.cut
          simp only [List.length_dropLast]
          rw [hl]
          simp
          omega
        unfold leftC
        rw [hu]
        simp only
        omega
end
theorem ab_le (cs : List Oc) (s : Nat) : abN cs s ≤ cs.length := List.countP_le_length
theorem left_newC {n : Nat} {h : HSt} (hl : h.cs.length ≤ n) (t : Int) : leftC n h (RSt.new t) ≤ n * (n + 2) := by
  show abN h.cs 0 * (n + 2) + 0 ≤ n * (n + 2)
  exact Nat.mul_le_mul_right _ (Nat.le_trans (ab_le _ _) hl)
theorem ri_new (t : Int) (n : Nat) : RI (RSt.new t) n := fun u e => by cases e
end Go.Proofs.YtlabdbfmfejkaaaGreatDoor
