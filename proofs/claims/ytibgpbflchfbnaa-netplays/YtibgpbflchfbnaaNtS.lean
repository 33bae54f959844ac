/- The plain net told by what is under way alone; both nets side by side. -/
import Derived.Test.YtibgpbflchfbnaaNtRc
namespace Go.Proofs.Ytibgpbflchfbnaa
open Go.RowKit

structure RS (w : World) (b most lost : Nat) (ds : List Dg) (F : Nat → Prop) : Prop where
  net : ∃ rv rs, RNet w b most lost rv rs F ∧ rs.map Prod.fst = ds
  le : ds.length ≤ most
  small : ∀ d ∈ ds, d.b.length ≤ 1024

section
variable {w w' : World} {b most lost : Nat} {ds : List Dg} {F S : Nat → Prop}
theorem RS.lt (h : RS w b most lost ds F) : ∀ k, F k → k < w.heap.size := by
  obtain ⟨rv, rs, hn, _⟩ := h.net
  exact NT.lt hn
theorem RS.keep (h : RS w b most lost ds F) (hk : Kept w w' S) (hs : ∀ k, F k → ¬ S k) : RS w' b most lost ds F := by
  obtain ⟨rv, rs, hn, hm⟩ := h.net
  exact ⟨⟨rv, rs, hn.keep hk hs, hm⟩, h.le, h.small⟩
theorem RS.below (h : RS w b most lost ds F) (hb : Below w.heap.size w w') : RS w' b most lost ds F := h.keep (kept_of_below hb (fun _ => False)) (fun _ _ e => e)
/-- Its row, and what it has lost. -/
theorem RS.cells (h : RS w b most lost ds F) : ∃ rv, w.cell? ⟨b, 2, none⟩ = some rv ∧ w.cell? ⟨b, 1, none⟩ = some (.int .i64 (lost : Int)) ∧ Dgs w rv ds ∧ ∃ ao cap, rv = .slice ao ds.length cap := by
  obtain ⟨rv, rs, hn, hm⟩ := h.net
  obtain ⟨ao, cap, e⟩ := NT.form hn
  exact ⟨rv, hn.c2, hn.c1, Dgs.ofOwns (NT.own hn) (fst_len hm) hm (NT.bs hn), ao, cap, by rw [e, fst_len hm]⟩
end

theorem rssend (b most lost : Nat) (ds : List Dg) (F : Nat → Prop) (d : Dg) (v : Value) (w : World) (h : RS w b most lost ds F) (hv : Bs w v d.b) (hm : most ≤ 256) (hlost : lost ≤ 4611686018427387904) :
    Calls Try.prog 21 #[.pointer (some ⟨b, 0, none⟩), dgV d v] w fun e w' => ∃ F', e = .returned (.bool (sendB most ds d)) ∧ RS w' b most (sendN most lost ds d) (sendL most ds d) F' ∧ Kept w w' F ∧ Grown w F F' := by
  obtain ⟨rv, rs, hn, hmap⟩ := h.net
  have hl := fst_len hmap
  unfold sendN sendL
  by_cases hs : ds.length < most ∧ d.b.length ≤ 1024
  · have e : sendB most ds d = true := decide_eq_true hs
    rw [e, if_pos rfl, if_pos rfl]
    refine (rsend_ok b most lost rv rs F d v w hn hv hm (by omega) hs.2).mono ?_
    rintro e' w' ⟨rfl, ⟨rv', v', hn'⟩, hk⟩
    refine ⟨_, rfl, ⟨⟨_, _, hn', by simp [hmap]⟩, by simp; omega, fun x hx => ?_⟩, hk, Grown.of⟩
    rcases List.mem_append.1 hx with h1 | h1
    · exact h.small x h1
    · rw [List.mem_singleton.1 h1]; exact hs.2
  · have e : sendB most ds d = false := decide_eq_false hs
    rw [e, if_neg (by simp), if_neg (by simp)]
    refine (rsend_lost b most lost rv rs F d v w hn hv hlost (by omega)).mono ?_
    rintro e' w' ⟨rfl, hn', hk⟩
    exact ⟨F, rfl, ⟨⟨_, _, hn', hmap⟩, h.le, h.small⟩, hk, Grown.refl _ _⟩

theorem rspeek (b most lost : Nat) (ds : List Dg) (F : Nat → Prop) (k : Int) (w : World) (h : RS w b most lost ds F) :
    Calls Try.prog 19 #[.pointer (some ⟨b, 0, none⟩), .int .i64 k] w fun e w' => ∃ v, e = .returned (.tuple #[dgV (peekD ds k) v, .bool (hasB ds.length k)]) ∧ Bs w v (peekD ds k).b ∧ Below w.heap.size w w' := by
  obtain ⟨rv, rs, hn, hmap⟩ := h.net
  have hl := fst_len hmap
  unfold peekD
  cases hk : hasB ds.length k with
  | false =>
    rw [if_neg (by simp)]
    refine (rpeek_no b most lost rv rs F k w hn (by rw [hl]; exact hk)).mono ?_
    rintro e w' ⟨rfl, hb⟩
    exact ⟨_, rfl, Bs.nil _, hb⟩
  | true =>
    rw [if_pos rfl]
    obtain ⟨j, rfl, hj⟩ := hasB_at hk
    have hj2 : j < rs.length := by omega
    have e1 := fst_at hmap j hj2 hj
    have e2 : ds.getD (j : Int).toNat zeroD = rs[j].1 := by rw [e1]; simp [List.getD_eq_getElem?_getD, hj]
    rw [e2]
    refine (rpeek_ok b most lost rv rs F j w hn hj2).mono ?_
    rintro e w' ⟨rfl, hb⟩
    exact ⟨_, rfl, NT.bs hn _ (List.getElem_mem hj2), hb⟩

theorem rstake (b most lost : Nat) (ds : List Dg) (F : Nat → Prop) (k : Int) (w : World) (h : RS w b most lost ds F) (hm : most ≤ 256) :
    Calls Try.prog 15 #[.pointer (some ⟨b, 0, none⟩), .int .i64 k] w fun e w' => ∃ v F', e = .returned (.tuple #[dgV (peekD ds k) v, .bool (hasB ds.length k)]) ∧ Bs w' v (peekD ds k).b ∧ RS w' b most lost (takeL ds k) F' ∧ Kept w w' F ∧ Grown w F F' := by
  obtain ⟨rv, rs, hn, hmap⟩ := h.net
  have hl := fst_len hmap
  have hle := h.le
  unfold peekD takeL
  cases hk : hasB ds.length k with
  | false =>
    rw [if_neg (by simp), if_neg (by simp)]
    refine (rtake_no b most lost rv rs F k w hn (by rw [hl]; exact hk)).mono ?_
    rintro e w' ⟨rfl, hb⟩
    exact ⟨_, F, rfl, Bs.nil _, h.below hb, kept_of_below hb F, Grown.refl _ _⟩
  | true =>
    rw [if_pos rfl, if_pos rfl]
    obtain ⟨j, rfl, hj⟩ := hasB_at hk
    have hj2 : j < rs.length := by omega
    have e1 := fst_at hmap j hj2 hj
    have e2 : ds.getD (j : Int).toNat zeroD = rs[j].1 := by rw [e1]; simp [List.getD_eq_getElem?_getD, hj]
    rw [e2]
    have hbj := NT.bs hn _ (List.getElem_mem hj2)
    have hfj := NT.fs hn _ (List.getElem_mem hj2)
    refine (rtake_ok b most lost rv rs F j w hn hj2 (by omega)).mono ?_
    rintro e w' ⟨rv', rfl, hn', hk'⟩
    refine ⟨_, _, rfl, ?_, ⟨⟨rv', _, hn', ?_⟩, ?_, fun d hd => h.small d (List.mem_of_mem_eraseIdx hd)⟩, hk'.mono (fun i _ e => by have e' : i = b := e; rw [e']; exact NT.fb hn), Grown.of⟩
    · exact hbj.kept hk' (fun k hne hv _ => (hfj k hne hv).2.1)
    · rw [← hmap]; exact erase_map _ _ _
    · have := List.length_eraseIdx_le ds (j : Int).toNat
      omega

theorem rsdouble (b most lost : Nat) (ds : List Dg) (F : Nat → Prop) (k : Int) (w : World) (h : RS w b most lost ds F) (hm : most ≤ 256) :
    Calls Try.prog 17 #[.pointer (some ⟨b, 0, none⟩), .int .i64 k] w fun e w' => ∃ F', e = .returned (.bool (doubB most ds k)) ∧ RS w' b most lost (doubL most ds k) F' ∧ Kept w w' F ∧ Grown w F F' := by
  obtain ⟨rv, rs, hn, hmap⟩ := h.net
  have hl := fst_len hmap
  unfold doubL
  cases hd : doubB most ds k with
  | false =>
    rw [if_neg (by simp)]
    have hor : hasB rs.length k = false ∨ most ≤ rs.length := by
      rw [hl]
      unfold doubB at hd
      cases hk : hasB ds.length k with
      | false => exact Or.inl rfl
      | true => rw [hk] at hd; simp at hd; exact Or.inr hd
    refine (rdouble_no b most lost rv rs F k w hn hor).mono ?_
    rintro e w' ⟨rfl, hb⟩
    exact ⟨F, rfl, h.below hb, kept_of_below hb F, Grown.refl _ _⟩
  | true =>
    rw [if_pos rfl]
    have hd' : hasB ds.length k = true ∧ ds.length < most := by
      unfold doubB at hd
      simpa using hd
    obtain ⟨j, rfl, hj⟩ := hasB_at hd'.1
    have hj2 : j < rs.length := by omega
    have e1 := fst_at hmap j hj2 hj
    have hsm := fst_mem hmap _ h.small rs[j] (List.getElem_mem hj2)
    have e2 : ds.getD (j : Int).toNat zeroD = rs[j].1 := by rw [e1]; simp [List.getD_eq_getElem?_getD, hj]
    rw [e2]
    refine (rdouble_ok b most lost rv rs F j w hn hj2 hm (by omega) (by omega)).mono ?_
    rintro e w' ⟨rfl, ⟨rv', v', hn'⟩, hk'⟩
    refine ⟨_, rfl, ⟨⟨rv', _, hn', by simp [hmap]⟩, by simp; omega, fun d hd => ?_⟩, hk', Grown.of⟩
    rcases List.mem_append.1 hd with h1 | h1
    · exact h.small d h1
    · rw [List.mem_singleton.1 h1]; exact hsm

/-- Both nets, side by side. -/
structure Two (w wr : World) (b rb most lost rlost : Nat) (ds es : List Dg) (F R : Nat → Prop) : Prop where
  ns : NS wr b most lost ds F
  rs : RS wr rb most rlost es R
  ap : ∀ k, F k → ¬ R k
  hF : ∀ k, F k → w.heap.size ≤ k
  hR : ∀ k, R k → w.heap.size ≤ k
  bel : Below w.heap.size w wr

section
variable {w wr w' : World} {b rb most lost rlost lost' : Nat} {ds es ds' : List Dg} {F R F' : Nat → Prop}
theorem Two.below (h : Two w wr b rb most lost rlost ds es F R) (hb : Below wr.heap.size wr w') : Two w w' b rb most lost rlost ds es F R :=
  ⟨h.ns.below hb, h.rs.below hb, h.ap, h.hF, h.hR, h.bel.trans (hb.mono h.bel.size)⟩
/-- The first goes on. -/
theorem Two.left (h : Two w wr b rb most lost rlost ds es F R) (hn : NS w' b most lost' ds' F') (hk : Kept wr w' F) (hg : Grown wr F F') : Two w w' b rb most lost' rlost ds' es F' R := by
  refine ⟨hn, h.rs.keep hk (fun k hr hf => h.ap k hf hr), fun k hf hr => ?_, fun k hf => ?_, h.hR, h.bel.trans (hk.below h.bel.size (fun i hi e => by have := h.hF i e; omega))⟩
  · rcases hg k hf with h1 | h1
    · exact h.ap k h1 hr
    · have := h.rs.lt k hr; omega
  · rcases hg k hf with h1 | h1
    · exact h.hF k h1
    · have := h.bel.size; omega
/-- The second goes on. -/
theorem Two.right (h : Two w wr b rb most lost rlost ds es F R) (hn : RS w' rb most lost' ds' F') (hk : Kept wr w' R) (hg : Grown wr R F') : Two w w' b rb most lost lost' ds ds' F F' := by
  refine ⟨h.ns.keep hk (fun k hf hr => h.ap k hf hr), hn, fun k hf hr => ?_, h.hF, fun k hr => ?_, h.bel.trans (hk.below h.bel.size (fun i hi e => by have := h.hR i e; omega))⟩
  · rcases hg k hr with h1 | h1
    · exact h.ap k hf h1
    · have := h.ns.lt k hf; omega
  · rcases hg k hr with h1 | h1
    · exact h.hR k h1
    · have := h.bel.size; omega
/-- Something else is written. -/
theorem Two.keep {S : Nat → Prop} (h : Two w wr b rb most lost rlost ds es F R) (hk : Kept wr w' S) (hs : ∀ k, S k → ¬ F k ∧ ¬ R k ∧ w.heap.size ≤ k) : Two w w' b rb most lost rlost ds es F R :=
  ⟨h.ns.keep hk (fun k hf e => (hs k e).1 hf), h.rs.keep hk (fun k hr e => (hs k e).2.1 hr), h.ap, h.hF, h.hR, h.bel.trans (hk.below h.bel.size (fun i hi e => by have := (hs i e).2.2; omega))⟩
end

end Go.Proofs.Ytibgpbflchfbnaa
