/- Two paints of one heap; MarkSmall. -/
import Derived.Test.YtlabdbfmfejkaaaDoorMpE
import Derived.Test.YtlabdbfmfejkaaaDoorPbX
namespace Go.Proofs.YtlabdbfmfejkaaaDoor
open Go.RowKit

theorem nodup_len {α : Type} [DecidableEq α] : ∀ {l m : List α}, l.Nodup → (∀ x ∈ l, x ∈ m) → l.length ≤ m.length
  | [], _, _, _ => Nat.zero_le _
  | a :: l, m, hn, hs => by
    rw [List.nodup_cons] at hn
    have ha : a ∈ m := hs a List.mem_cons_self
    have h1 := nodup_len (l := l) (m := m.erase a) hn.2 (fun x hx => by
      refine (List.mem_erase_of_ne (fun e => ?_)).2 (hs x (List.mem_cons_of_mem _ hx))
      rw [e] at hx
      exact hn.1 hx)
    rw [List.length_erase_of_mem ha] at h1
    have h2 : 0 < m.length := List.length_pos_of_mem ha
    rw [List.length_cons]
    omega
section
variable {w0 w w' : World} {B xb pb hb : Nat} {h h' : HSt} {p p' : PSt} {m m' : MSt} {X : Nat → Prop} {S : Nat → Nat → Prop}
theorem PH.nd (x : PH w0 B w pb hb h p X) : (p.me.map (·.1)).Nodup := by
  obtain ⟨F, G, hp, ⟨sb, mb, tb, v, hx, _⟩, _⟩ := x.ex
  have := hx.me.nd
  rw [List.map_map] at this
  exact this
theorem flat_len (cs : List Oc) (hf : ∀ o ∈ cs, o.rf.length ≤ 7) : (cs.flatMap (·.rf)).length ≤ 7 * cs.length := by
  induction cs with
  | nil => exact Nat.le_refl _
  | cons o cs ih =>
    rw [List.flatMap_cons, List.length_append, List.length_cons]
    have h1 := hf o List.mem_cons_self
    have h2 := ih (fun q hq => hf q (List.mem_cons_of_mem _ hq))
    omega
/-- What is met are references. -/
theorem met_len (hnd : (p.me.map (·.1)).Nodup) (ok : h.Ok) (H : Snd h S p) : p.me.length ≤ 1000000 := by
  have h1 := nodup_len (m := h.cs.flatMap (·.rf)) hnd (fun x hx => by
    obtain ⟨e, he, rfl⟩ := List.mem_map.1 hx
    obtain ⟨x, r⟩ := e
    obtain ⟨k, o, h1, h2, _⟩ := H.me x r ((getA_iff hnd x r).1 he)
    exact List.mem_flatMap.2 ⟨o, (getC_mem h1).1, h2⟩)
  rw [List.length_map] at h1
  have h2 := flat_len h.cs (fun o ho => (ok.fl o ho).1)
  have h3 := ok.cnt
  have h4 := ok.most
  omega
end

/-- A heap and two paints of it; Y: blocks that stay. -/
structure D2 (w0 : World) (B : Nat) (w : World) (hb pb qb : Nat) (h : HSt) (p q : PSt) (Y : Nat → Prop) : Prop where
  ex : ∃ F P Q, HP w hb F h ∧ PN w pb hb B P p ∧ PN w qb hb B Q q ∧ (∀ k, F k → B ≤ k ∧ ¬ P k ∧ ¬ Q k ∧ ¬ Y k) ∧ (∀ k, P k → ¬ Q k ∧ ¬ Y k) ∧ (∀ k, Q k → ¬ Y k)
  bel : Below B w0 w
  le : B ≤ w.heap.size
  ys : ∀ k, Y k → k < w.heap.size
  pos : 0 < B
section
variable {w0 w w' : World} {B xb pb qb hb : Nat} {h h' : HSt} {p p' q q' : PSt} {m m' : MSt} {Y : Nat → Prop}
theorem D2.swap (x : D2 w0 B w hb pb qb h p q Y) : D2 w0 B w hb qb pb h q p Y := by
  obtain ⟨F, P, Q, h1, h2, h3, h4, h5, h6⟩ := x.ex
  exact ⟨⟨F, Q, P, h1, h3, h2, fun k hk => ⟨(h4 k hk).1, (h4 k hk).2.2.1, (h4 k hk).2.1, (h4 k hk).2.2.2⟩, fun k hk => ⟨fun e => (h5 k e).1 hk, h6 k hk⟩, fun k hk => (h5 k hk).2⟩, x.bel, x.le, x.ys, x.pos⟩
theorem D2.read (x : D2 w0 B w hb pb qb h p q Y) (hB : Below w.heap.size w w') : D2 w0 B w' hb pb qb h p q Y := by
  obtain ⟨F, P, Q, h1, h2, h3, h4, h5, h6⟩ := x.ex
  exact ⟨⟨F, P, Q, h1.below hB, h2.below hB, h3.below hB, h4, h5, h6⟩, x.bel.trans (hB.mono x.le), Nat.le_trans x.le hB.size, fun k e => Nat.lt_of_lt_of_le (x.ys k e) hB.size, x.pos⟩
theorem D2.off (x : D2 w0 B w hb pb qb h p q Y) (Z : Nat → Prop) (hZ : ∀ k, Z k → Y k) : D2 w0 B w hb pb qb h p q Z := by
  obtain ⟨F, P, Q, h1, h2, h3, h4, h5, h6⟩ := x.ex
  exact ⟨⟨F, P, Q, h1, h2, h3, fun k hk => ⟨(h4 k hk).1, (h4 k hk).2.1, (h4 k hk).2.2.1, fun e => (h4 k hk).2.2.2 (hZ k e)⟩, fun k hk => ⟨(h5 k hk).1, fun e => (h5 k hk).2 (hZ k e)⟩, fun k hk e => h6 k hk (hZ k e)⟩, x.bel, x.le, fun k e => x.ys k (hZ k e), x.pos⟩
theorem D2.fresh (x : D2 w0 B w hb pb qb h p q Y) (hB : Below w.heap.size w w') : D2 w0 B w' hb pb qb h p q (fun k => Y k ∨ (w.heap.size ≤ k ∧ k < w'.heap.size)) := by
  obtain ⟨F, P, Q, h1, h2, h3, h4, h5, h6⟩ := x.ex
  have l1 := h1.lt
  have l2 := h2.lt
  have l3 := h3.lt
  refine ⟨⟨F, P, Q, h1.below hB, h2.below hB, h3.below hB, fun k hk => ⟨(h4 k hk).1, (h4 k hk).2.1, (h4 k hk).2.2.1, fun e => ?_⟩, fun k hk => ⟨(h5 k hk).1, fun e => ?_⟩, fun k hk e => ?_⟩, x.bel.trans (hB.mono x.le), Nat.le_trans x.le hB.size, fun k e => ?_, x.pos⟩
  · rcases e with e | e
    · exact (h4 k hk).2.2.2 e
    · have := l1 k hk
      omega
  · rcases e with e | e
    · exact (h5 k hk).2 e
    · have := l2 k hk
      omega
  · rcases e with e | e
    · exact h6 k hk e
    · have := l3 k hk
      omega
  · rcases e with e | e
    · exact Nat.lt_of_lt_of_le (x.ys k e) hB.size
    · exact e.2
theorem D2.ph (x : D2 w0 B w hb pb qb h p q Y) : PH w0 B w pb hb h p Y := by
  obtain ⟨F, P, Q, h1, h2, h3, h4, h5, h6⟩ := x.ex
  exact ⟨⟨F, P, h1, h2, fun k hk => ⟨(h4 k hk).1, (h4 k hk).2.2.2, (h4 k hk).2.1⟩, fun k hk => (h5 k hk).2⟩, x.bel, x.le, x.ys, x.pos⟩
/-- The one paint with its marker; what it does not write is the other one's. -/
theorem D2.go (x : D2 w0 B w hb pb qb h p q Y) (hY : Y xb) : ∃ X, PH w0 B w pb hb h p X ∧ (∀ k, Y k → X k) ∧ ∀ w' p', PH w0 B w' pb hb h p' X → Kept w w' (MIts B X xb) → D2 w0 B w' hb pb qb h p' q Y := by
  obtain ⟨F, P, Q, h1, h2, h3, h4, h5, h6⟩ := x.ex
  have l3 := h3.lt
  refine ⟨fun k => Q k ∨ Y k, ⟨⟨F, P, h1, h2, fun k hk => ⟨(h4 k hk).1, fun e => ?_, (h4 k hk).2.1⟩, fun k hk e => ?_⟩, x.bel, x.le, fun k e => ?_, x.pos⟩, fun k e => Or.inr e, fun w' p' y hk => ?_⟩
  · rcases e with e | e
    · exact (h4 k hk).2.2.1 e
    · exact (h4 k hk).2.2.2 e
  · rcases e with e | e
    · exact (h5 k hk).1 e
    · exact (h5 k hk).2 e
  · rcases e with e | e
    · exact l3 k e
    · exact x.ys k e
  · obtain ⟨F', P', g1, g2, g3, g4⟩ := y.ex
    refine ⟨⟨F', P', Q, g1, g2, h3.kept hk (fun k a b => ?_), fun k a => ⟨(g3 k a).1, (g3 k a).2.2, fun e => (g3 k a).2.1 (Or.inl e), fun e => (g3 k a).2.1 (Or.inr e)⟩, fun k a => ⟨fun e => g4 k a (Or.inl e), fun e => g4 k a (Or.inr e)⟩, h6⟩, y.bel, y.le, fun k e => y.xs k (Or.inr e), y.pos⟩
    rcases b with b | b
    · rw [b] at a
      exact h6 xb a hY
    · exact b.2 (Or.inl a)
theorem PH.two (x : PH w0 B w pb hb h p Y) (M : Nat) (h1 : 1 ≤ M) (h2 : M ≤ 64) :
    Calls Tryd.prog 10 #[.pointer (some ⟨hb, 0, none⟩), .int .i64 (M : Int)] w fun e w' => ∃ qb, e = .returned (.tuple #[.pointer (some ⟨qb, 0, none⟩), .int .i64 0]) ∧ D2 w0 B w' hb pb qb h p (PSt.new M) Y ∧ Below w.heap.size w w' := by
  refine (pnew_ok hb B M h1 h2 w x.le).mono ?_
  rintro e w' ⟨qb, G, he, hn, hG, hb'⟩
  obtain ⟨F, P, g1, g2, g3, g4⟩ := x.ex
  have l1 := g1.lt
  have l2 := g2.lt
  exact ⟨qb, he, ⟨⟨F, P, G, g1.below hb', g2.below hb', hn, fun k hk => ⟨(g3 k hk).1, (g3 k hk).2.2, fun e => (by have := hG k e; have := l1 k hk; omega), (g3 k hk).2.1⟩, fun k hk => ⟨fun e => (by have := hG k e; have := l2 k hk; omega), g4 k hk⟩, fun k hk e => by have := hG k hk; have := x.xs k e; omega⟩, x.bel.trans (hb'.mono x.le), Nat.le_trans x.le hb'.size, fun k e => Nat.lt_of_lt_of_le (x.xs k e) hb'.size, x.pos⟩, hb'⟩
/-- A marker of the one paint is new. -/
theorem D2.mnew (x : D2 w0 B w hb pb qb h p q Y) :
    Calls Tryd.prog 12 #[.pointer (some ⟨hb, 0, none⟩), .pointer (some ⟨pb, 0, none⟩)] w fun e w' => e = .returned (.tuple #[.pointer (some ⟨w.heap.size, 0, none⟩), .int .i64 0]) ∧ D2 w0 B w' hb pb qb h p q (fun k => Y k ∨ k = w.heap.size) ∧ MRow w' w.heap.size hb pb ⟨0, 0, false⟩ ∧ Below w.heap.size w w' := by
  refine (mnew_ok hb pb w).mono ?_
  rintro e w' ⟨he, r, hlt, hB⟩
  exact ⟨he, (x.fresh hB).off _ (fun k e => by
    rcases e with e | e
    · exact Or.inl e
    · exact Or.inr ⟨by omega, by omega⟩), ⟨0, r, fun e => by cases e⟩, hB⟩
theorem D2.mall {J : PSt → MSt → Prop} (x : D2 w0 B w hb pb qb h p q Y) (r : MRow w xb hb pb m) (hY : Y xb) (hge : B ≤ xb) (hs : SB p) (n : Nat) (hn : n ≤ 60) (hin : ∀ k o, getC h.cs k = some o → 1 ≤ k ∧ k ≤ n) (hlen : h.cs.length ≤ n) (hL : leftM n h p m ≤ 42 * (n + 2) * (n + 2)) (hJ0 : J p m) (hJ : ∀ p m, J p m → J (stepR h p m).2.1 (stepR h p m).2.2) :
    Calls Tryd.prog 14 #[.pointer (some ⟨xb, 0, none⟩), .int .i64 (n : Int)] w fun e w' => ∃ (k : Nat) (p' : PSt) (m' : MSt), e = .returned (.tuple #[.int .i64 (k : Int), .bool true]) ∧ J p' m' ∧ Idle h p' m' ∧ D2 w0 B w' hb pb qb h p' q Y ∧ Kept w w' (fun k => k = xb ∨ (B ≤ k ∧ ¬ Y k)) := by
  obtain ⟨X, y, hX, hgo⟩ := x.go hY
  refine (mall_any (J := J) ⟨y, r, hX xb hY, hge⟩ hs n hn hin hlen hL hJ0 hJ).mono ?_
  rintro e w' ⟨k, p', m', he, _, j, hI, _, _, z, hk⟩
  exact ⟨k, p', m', he, j, hI, hgo w' p' z.ph hk, hk.mono (fun k _ e => by
    rcases e with e | e
    · exact Or.inl e
    · exact Or.inr ⟨e.1, fun f => e.2 (hX k f)⟩)⟩
end
theorem mark_same {h : HSt} {p q : PSt} {k : Nat} (e : getA p.ma k = getA q.ma k) : markR h p k = markR h q k := by
  unfold markR
  rw [e]

end Go.Proofs.YtlabdbfmfejkaaaDoor
