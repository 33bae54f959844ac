/- The program's table and the plain one beside one another. -/
import Derived.Test.YtofpkmionbbmcaaTbRJ
import Derived.Test.YtofpkmionbbmcaaTbRK
import Derived.Test.YtofpkmionbbmcaaTbStep
namespace Go.Proofs.Ytofpkmionbbmcaa
open Go.RowKit

structure TP (w wr : World) (B a b most : Nat) (ea eb : List (Nat × Int)) (F R : Nat → Prop) : Prop where
  l : TBUI wr a most ea F
  r : TBRI wr b most eb R
  dis : ∀ k, F k → ¬ R k
  fB : ∀ k, F k → B ≤ k
  rB : ∀ k, R k → B ≤ k
  bel : Below B w wr

section
variable {w wr w' : World} {B a b most : Nat} {ea eb ea' eb' : List (Nat × Int)} {F R F' R' S : Nat → Prop}
theorem TP.size (h : TP w wr B a b most ea eb F R) : B < wr.heap.size := by
  have := h.fB a h.l.fb
  have := h.l.lt' a h.l.fb
  omega
theorem TP.below (h : TP w wr B a b most ea eb F R) (hb : Below wr.heap.size wr w') : TP w w' B a b most ea eb F R :=
  ⟨h.l.below hb, h.r.below hb, h.dis, h.fB, h.rB, h.bel.trans (hb.mono (Nat.le_of_lt h.size))⟩
theorem TP.keep (h : TP w wr B a b most ea eb F R) (hk : Kept wr w' S) (hF : ∀ k, F k → ¬ S k) (hR : ∀ k, R k → ¬ S k) (hS : ∀ k, S k → B ≤ k) : TP w w' B a b most ea eb F R :=
  ⟨h.l.keep hk hF, h.r.keep hk hR, h.dis, h.fB, h.rB, h.bel.trans (hk.below (Nat.le_of_lt h.size) (fun i hi e => by have := hS i e; omega))⟩
theorem TP.left (h : TP w wr B a b most ea eb F R) (h' : TBUI w' a most ea' F') (hk : Kept wr w' F) (hg : GrownT wr F F') : TP w w' B a b most ea' eb F' R := by
  have hs := h.size
  refine ⟨h', h.r.keep hk (fun k hr hf => h.dis k hf hr), fun k hf hr => ?_, fun k hf => ?_, h.rB, h.bel.trans (hk.below (Nat.le_of_lt hs) (fun i hi e => by have := h.fB i e; omega))⟩
  · rcases hg k hf with h1 | h1
    · exact h.dis k h1 hr
    · have := h.r.lt' k hr; omega
  · rcases hg k hf with h1 | h1
    · exact h.fB k h1
    · omega
theorem TP.right (h : TP w wr B a b most ea eb F R) (h' : TBRI w' b most eb' R') (hk : Kept wr w' R) (hg : GrownT wr R R') : TP w w' B a b most ea eb' F R' := by
  have hs := h.size
  refine ⟨h.l.keep hk (fun k hf hr => h.dis k hf hr), h', fun k hf hr => ?_, h.fB, fun k hr => ?_, h.bel.trans (hk.below (Nat.le_of_lt hs) (fun i hi e => by have := h.rB i e; omega))⟩
  · rcases hg k hr with h1 | h1
    · exact h.dis k hf h1
    · have := h.l.lt' k hf; omega
  · rcases hg k hr with h1 | h1
    · exact h.rB k h1
    · omega
end

/-- Both, and a block beside them that stays. -/
def TE (w wr : World) (B a b most : Nat) (ea eb : List (Nat × Int)) (x : Nat) (ob : Obj) : Prop := ∃ F R, TP w wr B a b most ea eb F R ∧ wr.heap[x]? = some ob ∧ ¬ F x ∧ ¬ R x

section
variable {w wr w' : World} {B a b most : Nat} {ea eb : List (Nat × Int)} {x : Nat} {ob : Obj}
theorem TE.below (h : TE w wr B a b most ea eb x ob) (hb : Below wr.heap.size wr w') : TE w w' B a b most ea eb x ob := by
  obtain ⟨F, R, h1, h2, h3, h4⟩ := h
  exact ⟨F, R, h1.below hb, (hb.block x (Array.getElem?_eq_some_iff.1 h2).1).trans h2, h3, h4⟩
theorem TE.drewN (h : TE w wr B a b most ea eb x ob) (q : Nat) : TE w (wr.drewN q) B a b most ea eb x ob := h.below (below_drewN wr q)
theorem TE.tp (h : TE w wr B a b most ea eb x ob) : ∃ F R, TP w wr B a b most ea eb F R := by
  obtain ⟨F, R, h1, _⟩ := h
  exact ⟨F, R, h1⟩
theorem TE.blk (h : TE w wr B a b most ea eb x ob) : wr.heap[x]? = some ob := by
  obtain ⟨F, R, _, h2, _⟩ := h
  exact h2

theorem tputl (k : Nat) (v : Int) (h : TE w wr B a b most ea eb x ob) :
    Calls Try.prog 31 #[.pointer (some ⟨a, 0, none⟩), .int .u64 (k : Int), .int .i64 v] wr fun e w' => e = .returned (.bool (putB ltN most ea k)) ∧ TE w w' B a b most (putE ltN most ea k v) eb x ob := by
  obtain ⟨F, R, h1, h2, h3, h4⟩ := h
  have hx := (Array.getElem?_eq_some_iff.1 h2).1
  refine (putUI_any a most ea F k v wr h1.l).mono ?_
  rintro e w' ⟨F', rfl, h', hk, hg⟩
  exact ⟨rfl, F', R, h1.left h' hk hg, (hk.block x hx h3).trans h2, fun hf => by
    rcases hg x hf with h | h
    · exact h3 h
    · omega, h4⟩
theorem tputr (k : Nat) (v : Int) (h : TE w wr B a b most ea eb x ob) :
    Calls Try.prog 32 #[.pointer (some ⟨b, 0, none⟩), .int .u64 (k : Int), .int .i64 v] wr fun e w' => e = .returned (.bool (putB ltN most eb k)) ∧ TE w w' B a b most ea (putE ltN most eb k v) x ob := by
  obtain ⟨F, R, h1, h2, h3, h4⟩ := h
  have hx := (Array.getElem?_eq_some_iff.1 h2).1
  refine (putRI_any b most eb R k v wr h1.r).mono ?_
  rintro e w' ⟨F', rfl, h', hk, hg⟩
  exact ⟨rfl, F, F', h1.right h' hk hg, (hk.block x hx h4).trans h2, h3, fun hf => by
    rcases hg x hf with h | h
    · exact h4 h
    · omega⟩
theorem tdropl (k : Nat) (h : TE w wr B a b most ea eb x ob) :
    Calls Try.prog 23 #[.pointer (some ⟨a, 0, none⟩), .int .u64 (k : Int)] wr fun e w' => e = .returned (.bool (hasE ltN ea k)) ∧ TE w w' B a b most (dropE ltN ea k) eb x ob := by
  obtain ⟨F, R, h1, h2, h3, h4⟩ := h
  have hx := (Array.getElem?_eq_some_iff.1 h2).1
  refine (dropUI_any a most ea F k wr h1.l).mono ?_
  rintro e w' ⟨F', rfl, h', hk, hg⟩
  exact ⟨rfl, F', R, h1.left h' hk hg, (hk.block x hx h3).trans h2, fun hf => by
    rcases hg x hf with h | h
    · exact h3 h
    · omega, h4⟩
theorem tdropr (k : Nat) (h : TE w wr B a b most ea eb x ob) :
    Calls Try.prog 24 #[.pointer (some ⟨b, 0, none⟩), .int .u64 (k : Int)] wr fun e w' => e = .returned (.bool (hasE ltN eb k)) ∧ TE w w' B a b most ea (dropE ltN eb k) x ob := by
  obtain ⟨F, R, h1, h2, h3, h4⟩ := h
  have hx := (Array.getElem?_eq_some_iff.1 h2).1
  refine (dropRI_any b most eb R k wr h1.r).mono ?_
  rintro e w' ⟨F', rfl, h', hk, hg⟩
  exact ⟨rfl, F, F', h1.right h' hk hg, (hk.block x hx h4).trans h2, h3, fun hf => by
    rcases hg x hf with h | h
    · exact h4 h
    · omega⟩
theorem tgetl (k : Nat) (h : TE w wr B a b most ea eb x ob) :
    Calls Try.prog 21 #[.pointer (some ⟨a, 0, none⟩), .int .u64 (k : Int)] wr fun e w' => e = .returned (ovVUI (getE ltN ea k)) ∧ ∃ q, w' = wr.drewN q := by
  obtain ⟨F, R, h1, _⟩ := h
  exact getUI_any a most ea F k wr h1.l
theorem tgetr (k : Nat) (h : TE w wr B a b most ea eb x ob) :
    Calls Try.prog 22 #[.pointer (some ⟨b, 0, none⟩), .int .u64 (k : Int)] wr fun e w' => e = .returned (ovVUI (getE ltN eb k)) ∧ ∃ q, w' = wr.drewN q := by
  obtain ⟨F, R, h1, _⟩ := h
  exact getRI_any b most eb R k wr h1.r
theorem tnextl (k : Nat) (h : TE w wr B a b most ea eb x ob) :
    Calls Try.prog 25 #[.pointer (some ⟨a, 0, none⟩), .int .u64 (k : Int)] wr fun e w' => e = .returned (okVUI (nextE ltN ea k)) ∧ ∃ q, w' = wr.drewN q := by
  obtain ⟨F, R, h1, _⟩ := h
  exact nextUI_any a most ea F k wr h1.l
theorem tnextr (k : Nat) (h : TE w wr B a b most ea eb x ob) :
    Calls Try.prog 26 #[.pointer (some ⟨b, 0, none⟩), .int .u64 (k : Int)] wr fun e w' => e = .returned (okVUI (nextE ltN eb k)) ∧ wr = w' := by
  obtain ⟨F, R, h1, _⟩ := h
  exact nextRI_any b most eb R k wr h1.r
theorem tafterl (k : Nat) (h : TE w wr B a b most ea eb x ob) :
    Calls Try.prog 27 #[.pointer (some ⟨a, 0, none⟩), .int .u64 (k : Int)] wr fun e w' => e = .returned (okVUI (afterE ltN ea k)) ∧ ∃ q, w' = wr.drewN q := by
  obtain ⟨F, R, h1, _⟩ := h
  exact afterUI_any a most ea F k wr h1.l
theorem tafterr (k : Nat) (h : TE w wr B a b most ea eb x ob) :
    Calls Try.prog 28 #[.pointer (some ⟨b, 0, none⟩), .int .u64 (k : Int)] wr fun e w' => e = .returned (okVUI (afterE ltN eb k)) ∧ wr = w' := by
  obtain ⟨F, R, h1, _⟩ := h
  exact afterRI_any b most eb R k wr h1.r
theorem tfirstl (h : TE w wr B a b most ea eb x ob) :
    Calls Try.prog 29 #[.pointer (some ⟨a, 0, none⟩)] wr fun e w' => e = .returned (okVUI (firstE ea)) ∧ wr = w' := by
  obtain ⟨F, R, h1, _⟩ := h
  exact firstUI_any a most ea F wr h1.l
theorem tfirstr (h : TE w wr B a b most ea eb x ob) :
    Calls Try.prog 30 #[.pointer (some ⟨b, 0, none⟩)] wr fun e w' => e = .returned (okVUI (firstE eb)) ∧ wr = w' := by
  obtain ⟨F, R, h1, _⟩ := h
  exact firstRI_any b most eb R wr h1.r
end

/-- A key or none, a value or none, as pairs. -/
def okK (o : Option Nat) : Nat := o.getD 0
def okI (o : Option Int) : Int := o.getD 0
theorem okV_pair (o : Option Nat) : okVUI o = .tuple #[.int .u64 (okK o : Int), .bool o.isSome] := by cases o <;> rfl
theorem ovV_pair (o : Option Int) : ovVUI o = .tuple #[.int .i64 (okI o), .bool o.isSome] := by cases o <;> rfl

end Go.Proofs.Ytofpkmionbbmcaa
