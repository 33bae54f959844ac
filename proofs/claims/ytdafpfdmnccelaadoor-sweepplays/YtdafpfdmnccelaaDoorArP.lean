/- Room, reckoned; and an arena that is all that is new. -/
import Derived.Test.YtdafpfdmnccelaaDoorArOP
import Derived.Test.YtdafpfdmnccelaaDoorPick
namespace Go.Proofs.YtdafpfdmnccelaaDoor
open Go.RowKit

theorem sum_set (f : Bk → Nat) (y : Bk) : ∀ (bs : List Bk) (n : Nat) (hn : n < bs.length), ((bs.set n y).map f).sum + f bs[n] = (bs.map f).sum + f y
  | [], n, hn => by simp at hn
  | x :: bs, 0, _ => by
    simp only [List.set_cons_zero, List.map_cons, List.sum_cons, List.getElem_cons_zero]
    omega
  | x :: bs, n + 1, hn => by
    have := sum_set f y bs n (by simpa using hn)
    simp only [List.set_cons_succ, List.map_cons, List.sum_cons, List.getElem_cons_succ]
    omega
theorem exists_pos (f : Bk → Nat) : ∀ (bs : List Bk), 0 < (bs.map f).sum → ∃ x ∈ bs, 0 < f x
  | [], h => by simp at h
  | x :: bs, h => by
    rw [List.map_cons, List.sum_cons] at h
    by_cases hx : 0 < f x
    · exact ⟨x, List.mem_cons_self, hx⟩
    · obtain ⟨y, hy, h2⟩ := exists_pos f bs (by omega)
      exact ⟨y, List.mem_cons_of_mem _ hy, h2⟩
theorem le_sum (f : Bk → Nat) : ∀ (bs : List Bk) (x : Bk), x ∈ bs → f x ≤ (bs.map f).sum
  | [], _, h => by cases h
  | y :: bs, x, h => by
    rw [List.map_cons, List.sum_cons]
    rcases List.mem_cons.1 h with rfl | h
    · omega
    · have := le_sum f bs x h; omega
theorem roomN_c {x : Bk} {k : Nat} (h : 0 < roomN x k) : x.c = 0 ∨ x.c = k := by
  unfold roomN at h
  split at h
  · assumption
  · omega
theorem pick_none {k : Nat} {bs : List Bk} (h : pickB k bs = none) : ∀ x ∈ bs, roomN x k = 0 := by
  unfold pickB at h
  cases hf : firstB k k bs with
  | some n => rw [hf] at h; cases h
  | none =>
    rw [hf] at h
    unfold firstB at hf h
    rw [List.findIdx?_eq_none_iff] at hf h
    intro x hx
    apply Nat.eq_zero_of_not_pos
    intro hp
    rcases roomN_c hp with h1 | h1
    · have := h x hx
      simp [isB, h1, hp] at this
    · have := hf x hx
      simp [isB, h1, hp] at this
/-- Where there is room Alloc goes well, and there is one less. -/
theorem room_some {bs : List Bk} {s : Int} (hO : AO bs) (hr : 0 < roomB bs s) : (allocR bs s).2 = 0 ∧ roomB (allocL bs s) s + 1 = roomB bs s := by
  unfold roomB allocR allocL at *
  split at hr
  · omega
  · next hz =>
    simp only [if_neg hz]
    cases hp : pickB (classN s) bs with
    | none =>
      obtain ⟨x, hx, h⟩ := exists_pos _ _ hr
      have := pick_none hp x hx
      omega
    | some n =>
      obtain ⟨hn, hc, hr'⟩ := pickB_lt hp
      have ht := take_spec (hO _ (List.getElem_mem hn)) (classN_ne hz) hc hr'
      have hs : ((bs.set n (takeB bs[n] (classN s))).map (fun x => roomN x (classN s))).sum + roomN bs[n] (classN s) = (bs.map (fun x => roomN x (classN s))).sum + roomN (takeB bs[n] (classN s)) (classN s) := sum_set (fun x => roomN x (classN s)) (takeB bs[n] (classN s)) bs n hn
      have := ht.2.2.2.2.2
      refine ⟨rfl, ?_⟩
      show ((bs.set n (takeB (bs.getD n bk0) (classN s))).map (fun x => roomN x (classN s))).sum + 1 = (bs.map (fun x => roomN x (classN s))).sum
      rw [getD_at hn]
      omega
theorem room_none {bs : List Bk} {s : Int} (h1 : 1 ≤ s) (h2 : s ≤ 16) (hr : roomB bs s = 0) : (allocR bs s).2 = 2 := by
  have hk := (classN_is h1 h2).1
  have hz : classN s ≠ 0 := by have := hk.pos; omega
  unfold roomB allocR at *
  rw [if_neg hz] at hr ⊢
  cases hp : pickB (classN s) bs with
  | none => rfl
  | some n =>
    obtain ⟨hn, _, hr'⟩ := pickB_lt hp
    have : roomN bs[n] (classN s) ≤ (bs.map (fun x => roomN x (classN s))).sum := le_sum (fun x => roomN x (classN s)) bs bs[n] (List.getElem_mem hn)
    omega
theorem room_le (bs : List Bk) (s : Int) : roomB bs s ≤ 16 * bs.length := by
  unfold roomB
  split
  · omega
  · have := sum_le (fun x => roomN x (classN s)) 16 bs (fun x _ => roomN_le x _)
    omega
theorem allocR_err {bs : List Bk} {s : Int} (h1 : 1 ≤ s) (h2 : s ≤ 16) : (allocR bs s).2 = 0 ∨ ((allocR bs s).2 = 2 ∧ allocL bs s = bs) := by
  have hk := (classN_is h1 h2).1
  have hz : classN s ≠ 0 := by have := hk.pos; omega
  unfold allocR allocL
  rw [if_neg hz, if_neg hz]
  cases hp : pickB (classN s) bs with
  | none => exact Or.inr ⟨rfl, rfl⟩
  | some n => exact Or.inl rfl

theorem new_mul (n : Nat) (h1 : 1 ≤ n) (h2 : n ≤ 256) (w : World) (hT : TB w) :
    Calls Tryd.prog 61 #[.int .i64 (16 * (n : Int))] w fun e w' => e = .returned (.tuple #[.pointer (some ⟨w.heap.size, 0, none⟩), .int .i64 0]) ∧ AR w' w.heap.size (List.replicate n bk0) ∧ Below w.heap.size w w' := by
  have := new_ok n h1 h2 w hT
  rw [show ((16 * n : Nat) : Int) = 16 * (n : Int) by omega] at this
  exact this

/-- An arena of n blocks at b; all that lay below b is as it was. -/
structure AS (w wr : World) (b n : Nat) (bs : List Bk) : Prop where
  ar : AR wr b bs
  ok : AO bs
  len : bs.length = n
  bel : Below b w wr
theorem AS.new {w wr : World} {b n : Nat} (h : AR wr b (List.replicate n bk0)) (hb : Below b w wr) : AS w wr b n (List.replicate n bk0) := ⟨h, AO.new n, by simp, hb⟩
theorem AS.read {w wr w' : World} {b n : Nat} {bs : List Bk} (h : AS w wr b n bs) (hb : Below wr.heap.size wr w') : AS w w' b n bs :=
  ⟨h.ar.below hb, h.ok, h.len, h.bel.trans (hb.mono (Nat.le_of_lt h.ar.lt))⟩
theorem AS.keep {w wr w' : World} {b n : Nat} {bs : List Bk} {S : Nat → Prop} (h : AS w wr b n bs) (hk : Kept wr w' S) (hs : ∀ k, k ≤ b → ¬ S k) : AS w w' b n bs :=
  ⟨h.ar.kept hk (hs 0 (Nat.zero_le _)) (hs b (Nat.le_refl _)), h.ok, h.len, h.bel.trans (hk.below (Nat.le_of_lt h.ar.lt) (fun i hi => hs i (by omega)))⟩
theorem AS.alloc {w wr : World} {b n : Nat} {bs : List Bk} (h : AS w wr b n bs) (s : Int) :
    Calls Tryd.prog 52 #[.pointer (some ⟨b, 0, none⟩), .int .i64 s] wr fun e w' => e = .returned (.tuple #[.int .i64 ((allocR bs s).1 : Int), .int .i64 ((allocR bs s).2 : Int)]) ∧ AS w w' b n (allocL bs s) ∧ Kept wr w' (fun k => k = b) :=
  (alloc_any b bs s h.ok wr h.ar).mono (fun _ _ ⟨h1, h2, h3⟩ => ⟨h1, ⟨h2, h.ok.alloc s, by rw [len_alloc, h.len], h.bel.trans (h3.below (Nat.le_of_lt h.ar.lt) (fun i hi => by show ¬ (i = b); omega))⟩, h3⟩)
theorem AS.free {w wr : World} {b n : Nat} {bs : List Bk} (h : AS w wr b n bs) (i : Int) :
    Calls Tryd.prog 54 #[.pointer (some ⟨b, 0, none⟩), .int .i64 i] wr fun e w' => e = .returned (.int .i64 ((freeR bs i : Nat) : Int)) ∧ AS w w' b n (freeL bs i) ∧ Kept wr w' (fun k => k = b) :=
  (free_any b bs i h.ok wr h.ar).mono (fun _ _ ⟨h1, h2, h3⟩ => ⟨h1, ⟨h2, h.ok.free i, by rw [len_free, h.len], h.bel.trans (h3.below (Nat.le_of_lt h.ar.lt) (fun i hi => by show ¬ (i = b); omega))⟩, h3⟩)
theorem AS.at {w wr : World} {b n : Nat} {bs : List Bk} (h : AS w wr b n bs) (i : Int) :
    Calls Tryd.prog 74 #[.pointer (some ⟨b, 0, none⟩), .int .i64 i] wr fun e w' => e = .returned (.int .i64 ((atB bs i : Nat) : Int)) ∧ AS w w' b n bs ∧ Below wr.heap.size wr w' :=
  (at_any b bs i h.ok wr h.ar).mono (fun _ _ ⟨h1, h2⟩ => ⟨h1, h.read h2, h2⟩)

end Go.Proofs.YtdafpfdmnccelaaDoor
