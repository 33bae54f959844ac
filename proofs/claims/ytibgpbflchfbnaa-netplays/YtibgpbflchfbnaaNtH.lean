/- A net told by what is under way alone; the law's own example. -/
import Derived.Test.YtibgpbflchfbnaaNtG
namespace Go.Proofs.Ytibgpbflchfbnaa
open Go.RowKit

/-- The net in block b has ds under way. -/
structure NS (w : World) (b most lost : Nat) (ds : List Dg) (F : Nat → Prop) : Prop where
  net : ∃ rv rs, Net w b most lost rv rs F ∧ rs.map Prod.fst = ds
  le : ds.length ≤ most
  small : ∀ d ∈ ds, d.b.length ≤ 1024

/-- F' is F, and what is new. -/
def Grown (w : World) (F F' : Nat → Prop) : Prop := ∀ k, F' k → F k ∨ w.heap.size ≤ k
theorem Grown.refl (w : World) (F : Nat → Prop) : Grown w F F := fun _ h => Or.inl h
theorem Grown.of {w w' : World} {F : Nat → Prop} : Grown w F (grownF w w' F) := fun k h => by
  rcases h with h | h
  · exact Or.inl h
  · exact Or.inr h.1

section
variable {w w' : World} {b most lost : Nat} {ds : List Dg} {F S : Nat → Prop}
theorem NS.lt (h : NS w b most lost ds F) : ∀ k, F k → k < w.heap.size := by
  obtain ⟨rv, rs, hn, _⟩ := h.net
  exact NT.lt hn
theorem NS.fb (h : NS w b most lost ds F) : F b := by
  obtain ⟨rv, rs, hn, _⟩ := h.net
  exact NT.fb hn
theorem NS.keep (h : NS w b most lost ds F) (hk : Kept w w' S) (hs : ∀ k, F k → ¬ S k) : NS w' b most lost ds F := by
  obtain ⟨rv, rs, hn, hm⟩ := h.net
  exact ⟨⟨rv, rs, hn.keep hk hs, hm⟩, h.le, h.small⟩
theorem NS.below (h : NS w b most lost ds F) (hb : Below w.heap.size w w') : NS w' b most lost ds F := h.keep (kept_of_below hb (fun _ => False)) (fun _ _ e => e)
end

theorem erase_map {α β : Type} (f : α → β) (l : List α) (k : Nat) : (l.eraseIdx k).map f = (l.map f).eraseIdx k := by
  rw [List.eraseIdx_eq_take_drop_succ, List.eraseIdx_eq_take_drop_succ, List.map_append, List.map_take, List.map_drop]
theorem fst_len {rs : List (Dg × Value)} {ds : List Dg} (h : rs.map Prod.fst = ds) : rs.length = ds.length := by rw [← h]; simp
theorem fst_at {rs : List (Dg × Value)} {ds : List Dg} (h : rs.map Prod.fst = ds) (k : Nat) (hk : k < rs.length) (hk2 : k < ds.length) : rs[k].1 = ds[k] := by
  subst h
  simp
theorem fst_mem {rs : List (Dg × Value)} {ds : List Dg} (h : rs.map Prod.fst = ds) (P : Dg → Prop) (hp : ∀ d ∈ ds, P d) : ∀ r ∈ rs, P r.1 := fun r hr => hp _ (by rw [← h]; exact List.mem_map_of_mem hr)

theorem nsnew (n : Nat) (h1 : 1 ≤ n) (h2 : n ≤ 256) (w : World) :
    Calls Try.prog 8 #[.int .i64 (n : Int)] w fun e w' => e = .returned (.tuple #[.pointer (some ⟨w.heap.size, 0, none⟩), .int .i64 0]) ∧ NS w' w.heap.size n 0 [] (fun k => k = w.heap.size) ∧ Below w.heap.size w w' := by
  refine (nnew_ok n h1 h2 w).mono ?_
  rintro e w' ⟨rfl, hn, hb, _⟩
  exact ⟨rfl, ⟨⟨_, _, hn, rfl⟩, Nat.zero_le _, by simp⟩, hb⟩

/-- Is it put behind the others? -/
def sendB (most : Nat) (ds : List Dg) (d : Dg) : Bool := decide (ds.length < most ∧ d.b.length ≤ 1024)
def sendL (most : Nat) (ds : List Dg) (d : Dg) : List Dg := if sendB most ds d = true then ds ++ [d] else ds
def sendN (most lost : Nat) (ds : List Dg) (d : Dg) : Nat := if sendB most ds d = true then lost else lost + 1

theorem nssend (b most lost : Nat) (ds : List Dg) (F : Nat → Prop) (d : Dg) (v : Value) (w : World) (h : NS w b most lost ds F) (hv : Bs w v d.b) (hm : most ≤ 256) (hlost : lost ≤ 4611686018427387904) :
    Calls Try.prog 10 #[.pointer (some ⟨b, 0, none⟩), dgV d v] w fun e w' => ∃ F', e = .returned (.bool (sendB most ds d)) ∧ NS w' b most (sendN most lost ds d) (sendL most ds d) F' ∧ Kept w w' F ∧ Grown w F F' := by
  obtain ⟨rv, rs, hn, hmap⟩ := h.net
  have hl := fst_len hmap
  unfold sendN sendL
  by_cases hs : ds.length < most ∧ d.b.length ≤ 1024
  · have e : sendB most ds d = true := decide_eq_true hs
    rw [e, if_pos rfl, if_pos rfl]
    refine (nsend_ok b most lost rv rs F d v w hn hv hm (by omega) hs.2).mono ?_
    rintro e' w' ⟨rfl, ⟨rv', v', hn'⟩, hk⟩
    refine ⟨_, rfl, ⟨⟨_, _, hn', by simp [hmap]⟩, by simp; omega, fun x hx => ?_⟩, hk, Grown.of⟩
    rcases List.mem_append.1 hx with h1 | h1
    · exact h.small x h1
    · rw [List.mem_singleton.1 h1]; exact hs.2
  · have e : sendB most ds d = false := decide_eq_false hs
    rw [e, if_neg (by simp), if_neg (by simp)]
    refine (nsend_lost b most lost rv rs F d v w hn hv hlost (by omega)).mono ?_
    rintro e' w' ⟨rfl, hn', hk⟩
    exact ⟨F, rfl, ⟨⟨_, _, hn', hmap⟩, h.le, h.small⟩, hk, Grown.refl _ _⟩

theorem nslen (b most lost : Nat) (ds : List Dg) (F : Nat → Prop) (w : World) (h : NS w b most lost ds F) :
    Calls Try.prog 22 #[.pointer (some ⟨b, 0, none⟩)] w fun e w' => e = .returned (.int .i64 (ds.length : Int)) ∧ w = w' := by
  obtain ⟨rv, rs, hn, hmap⟩ := h.net
  rw [← fst_len hmap]
  exact nlen_any b most lost rv rs F w hn

theorem nslost (b most lost : Nat) (ds : List Dg) (F : Nat → Prop) (w : World) (h : NS w b most lost ds F) :
    Calls Try.prog 23 #[.pointer (some ⟨b, 0, none⟩)] w fun e w' => e = .returned (.int .i64 (lost : Int)) ∧ w = w' := by
  obtain ⟨rv, rs, hn, hmap⟩ := h.net
  exact nlost_any b most lost rv rs F w hn

/-- The one of number k, or none. -/
def zeroD : Dg := ⟨0, 0, []⟩
def peekD (ds : List Dg) (k : Int) : Dg := if hasB ds.length k = true then ds.getD k.toNat zeroD else zeroD
def takeL (ds : List Dg) (k : Int) : List Dg := if hasB ds.length k = true then ds.eraseIdx k.toNat else ds
def doubB (most : Nat) (ds : List Dg) (k : Int) : Bool := hasB ds.length k && decide (ds.length < most)
def doubL (most : Nat) (ds : List Dg) (k : Int) : List Dg := if doubB most ds k = true then ds ++ [ds.getD k.toNat zeroD] else ds

/-- The bytes v holds are l, and if there are any they lie in memory of their own that is new. -/
def OwnB (h : Nat) (w : World) (v : Value) (l : List UInt8) : Prop := (v = .slice none 0 0 ∧ l = []) ∨ ∃ g, h ≤ g ∧ v = .slice (some ⟨g, 0, none⟩) l.length l.length ∧ w.heap[g]? = some (.cells (l.map bv).toArray 5 (0, 0))
theorem OwnB.bs {h : Nat} {w : World} {v : Value} {l : List UInt8} (q : OwnB h w v l) : Bs w v l := by
  rcases q with ⟨rfl, rfl⟩ | ⟨g, _, rfl, hg⟩
  · exact Bs.nil _
  · exact Bs.ofBlock hg (List.take_of_length_le (by simp)) (Nat.le_refl _)

theorem nspeek (b most lost : Nat) (ds : List Dg) (F : Nat → Prop) (k : Int) (w : World) (h : NS w b most lost ds F) :
    Calls Try.prog 18 #[.pointer (some ⟨b, 0, none⟩), .int .i64 k] w fun e w' => ∃ v, e = .returned (.tuple #[dgV (peekD ds k) v, .bool (hasB ds.length k)]) ∧ OwnB w.heap.size w' v (peekD ds k).b ∧ Below w.heap.size w w' := by
  obtain ⟨rv, rs, hn, hmap⟩ := h.net
  have hl := fst_len hmap
  unfold peekD
  cases hk : hasB ds.length k with
  | false =>
    rw [if_neg (by simp)]
    refine (npeek_no b most lost rv rs F k w hn (by rw [hl]; exact hk)).mono ?_
    rintro e w' ⟨rfl, hb⟩
    exact ⟨_, rfl, Or.inl ⟨rfl, rfl⟩, hb⟩
  | true =>
    rw [if_pos rfl]
    obtain ⟨j, rfl, hj⟩ := hasB_at hk
    have hj2 : j < rs.length := by omega
    have e1 := fst_at hmap j hj2 hj
    have e2 : ds.getD (j : Int).toNat zeroD = rs[j].1 := by rw [e1]; simp [List.getD_eq_getElem?_getD, hj]
    rw [e2]
    refine (npeek_ok b most lost rv rs F j w hn hj2 (by have := fst_mem hmap _ h.small rs[j] (List.getElem_mem hj2); omega)).mono ?_
    rintro e w' ⟨v', rfl, hv, hb⟩
    exact ⟨v', rfl, Or.inr hv, hb⟩

theorem nstake (b most lost : Nat) (ds : List Dg) (F : Nat → Prop) (k : Int) (w : World) (h : NS w b most lost ds F) (hm : most ≤ 256) :
    Calls Try.prog 11 #[.pointer (some ⟨b, 0, none⟩), .int .i64 k] w fun e w' => ∃ v, e = .returned (.tuple #[dgV (peekD ds k) v, .bool (hasB ds.length k)]) ∧ OwnB w.heap.size w' v (peekD ds k).b ∧ NS w' b most lost (takeL ds k) F ∧ Kept w w' F := by
  obtain ⟨rv, rs, hn, hmap⟩ := h.net
  have hl := fst_len hmap
  have hle := h.le
  unfold peekD takeL
  cases hk : hasB ds.length k with
  | false =>
    rw [if_neg (by simp), if_neg (by simp)]
    refine (ntake_no b most lost rv rs F k w hn (by rw [hl]; exact hk)).mono ?_
    rintro e w' ⟨rfl, hb⟩
    exact ⟨_, rfl, Or.inl ⟨rfl, rfl⟩, h.below hb, kept_of_below hb F⟩
  | true =>
    rw [if_pos rfl, if_pos rfl]
    obtain ⟨j, rfl, hj⟩ := hasB_at hk
    have hj2 : j < rs.length := by omega
    have e1 := fst_at hmap j hj2 hj
    have e2 : ds.getD (j : Int).toNat zeroD = rs[j].1 := by rw [e1]; simp [List.getD_eq_getElem?_getD, hj]
    rw [e2]
    refine (ntake_ok b most lost rv rs F j w hn hj2 (by have := fst_mem hmap _ h.small rs[j] (List.getElem_mem hj2); omega) (by omega)).mono ?_
    rintro e w' ⟨v', rv', rfl, hv, hn', hk'⟩
    refine ⟨v', rfl, Or.inr hv, ⟨⟨rv', _, hn', ?_⟩, ?_, fun d hd => h.small d (List.mem_of_mem_eraseIdx hd)⟩, hk'⟩
    · rw [← hmap]; exact erase_map _ _ _
    · have := List.length_eraseIdx_le ds (j : Int).toNat
      omega

theorem nsdouble (b most lost : Nat) (ds : List Dg) (F : Nat → Prop) (k : Int) (w : World) (h : NS w b most lost ds F) (hm : most ≤ 256) :
    Calls Try.prog 12 #[.pointer (some ⟨b, 0, none⟩), .int .i64 k] w fun e w' => ∃ F', e = .returned (.bool (doubB most ds k)) ∧ NS w' b most lost (doubL most ds k) F' ∧ Kept w w' F ∧ Grown w F F' := by
  obtain ⟨rv, rs, hn, hmap⟩ := h.net
  have hl := fst_len hmap
  unfold doubL
  cases hd : doubB most ds k with
  | false =>
    rw [if_neg (by simp)]
    have hor : hasB rs.length k = false ∨ most ≤ rs.length := by
      rw [hl]
      unfold doubB at hd
      cases hk : hasB ds.length k with
      | false => exact Or.inl rfl
      | true => rw [hk] at hd; simp at hd; exact Or.inr hd
    refine (ndouble_no b most lost rv rs F k w hn hor).mono ?_
    rintro e w' ⟨rfl, hb⟩
    exact ⟨F, rfl, h.below hb, kept_of_below hb F, Grown.refl _ _⟩
  | true =>
    rw [if_pos rfl]
    have hd' : hasB ds.length k = true ∧ ds.length < most := by
      unfold doubB at hd
      simpa using hd
    obtain ⟨j, rfl, hj⟩ := hasB_at hd'.1
    have hj2 : j < rs.length := by omega
    have e1 := fst_at hmap j hj2 hj
    have hsm := fst_mem hmap _ h.small rs[j] (List.getElem_mem hj2)
    have e2 : ds.getD (j : Int).toNat zeroD = rs[j].1 := by rw [e1]; simp [List.getD_eq_getElem?_getD, hj]
    rw [e2]
    refine (ndouble_ok b most lost rv rs F j w hn hj2 hm (by omega) (by omega)).mono ?_
    rintro e w' ⟨rfl, ⟨rv', v', hn'⟩, hk'⟩
    refine ⟨_, rfl, ⟨⟨rv', _, hn', by simp [hmap]⟩, by simp; omega, fun d hd => ?_⟩, hk', Grown.of⟩
    rcases List.mem_append.1 hd with h1 | h1
    · exact h.small d h1
    · rw [List.mem_singleton.1 h1]; exact hsm

theorem nsall (b most lost : Nat) (ds : List Dg) (F : Nat → Prop) (w : World) (h : NS w b most lost ds F) (hm : most ≤ 256) :
    Calls Try.prog 13 #[.pointer (some ⟨b, 0, none⟩)] w fun e w' => ∃ v g rs', e = .returned v ∧ rs'.map Prod.fst = ds ∧ DgNew w.heap.size w' v rs' g ∧ Below w.heap.size w w' := by
  obtain ⟨rv, rs, hn, hmap⟩ := h.net
  have hl := fst_len hmap
  have hle := h.le
  refine (nall_any b most lost rv rs F w hn (by omega) (fun r hr => by have := fst_mem hmap _ h.small r hr; omega)).mono ?_
  rintro e w' ⟨v, g, rs', rfl, h1, h2, h3⟩
  exact ⟨v, g, rs', rfl, by rw [h1, hmap], h2, h3⟩

end Go.Proofs.Ytibgpbflchfbnaa
