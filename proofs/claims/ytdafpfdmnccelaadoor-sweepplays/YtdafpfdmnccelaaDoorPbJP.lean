import Derived.Test.YtdafpfdmnccelaaDoorPbDP
import Derived.Test.YtdafpfdmnccelaaDoorPbKP
/- The plain Met. -/
/- The plain table of what was met: Put, reckoned; parts of rows. -/
namespace Go.Proofs.YtdafpfdmnccelaaDoor
open Go.RowKit

theorem outs_get {l L : List ((Int × Nat) × Nat)} (h : OutsOf l L) {x : Int × Nat} {r : Nat} (hm : (x, r) ∈ L) : atK L (keyI x) = some (x, r) := by
  unfold atK
  obtain ⟨i, hi, he⟩ := List.getElem_of_mem hm
  rw [List.find?_eq_some_iff_getElem]
  refine ⟨by simp, i, hi, he, fun j hj => ?_⟩
  have hp := h.2
  rw [List.pairwise_iff_getElem] at hp
  have := hp j i (by omega) hi hj
  rw [he] at this
  have hne : ¬ keyI (L[j]).1 = keyI x := by
    have t : keyI (L[j]).1 < keyI x := this
    omega
  simpa using hne
theorem getA_mem {l : List ((Int × Nat) × Nat)} {x : Int × Nat} {r : Nat} (h : getA l x = some r) : (x, r) ∈ l := by
  unfold getA at h
  rw [Option.map_eq_some_iff] at h
  obtain ⟨p, hp, rfl⟩ := h
  have h1 := List.mem_of_find?_eq_some hp
  have h2 : p.1 = x := by simpa using List.find?_some hp
  rw [← h2]
  exact h1
theorem getA_none {l : List ((Int × Nat) × Nat)} {x : Int × Nat} (h : getA l x = none) : ∀ p ∈ l, p.1 ≠ x := by
  unfold getA at h
  rw [Option.map_eq_none_iff, List.find?_eq_none] at h
  intro p hp
  simpa using h p hp
/-- Met, told by the rising list. -/
theorem met_outs {p : PSt} {L : List ((Int × Nat) × Nat)} (h : OutsOf p.me L) (x : Int × Nat) :
    (∃ r, metR p x = (r, true) ∧ atK L (keyI x) = some (x, r)) ∨ (metR p x = (0, false) ∧ ∀ y, atK L (keyI x) = some y → y.1 ≠ x) := by
  unfold metR
  cases hg : getA p.me x with
  | some r => exact Or.inl ⟨r, rfl, outs_get h (h.1.mem_iff.2 (getA_mem hg))⟩
  | none =>
    refine Or.inr ⟨rfl, fun y hy => ?_⟩
    unfold atK at hy
    exact getA_none hg y (h.1.mem_iff.1 (List.mem_of_find?_eq_some hy))
section
variable {w w' : World} {qb rb base : Nat} {sv mv kv vv : Value} {p : PSt} {L : List ((Int × Nat) × Nat)}
/-- The cells of an Out, or of none. -/
def outL (o : Option ((Int × Nat) × Nat)) : List Value := match o with
  | some y => [.int .i64 y.1.1, .int .u64 (y.1.2 : Int), .int .i64 (y.2 : Int)]
  | none => [.int .i64 0, .int .u64 0, .int .i64 0]
/-- Key and Get within a region that draws: the Out lies in a box of its own. -/
def GotK (w : World) (o : Option ((Int × Nat) × Nat)) (t6 t7 : Value) (wc : World) : Prop := ∃ g, t6 = .pointer (some ⟨g, 0, none⟩) ∧ t7 = .bool o.isSome ∧ w.heap.size ≤ g ∧ Below w.heap.size w wc ∧ Row wc g 104 (outL o)
theorem gotK_new {w0 w2 : World} {o : Option ((Int × Nat) × Nat)} {k : Obj} {x0 x1 x2 : Value} (b2 : Below (w0.alloc k).drew.heap.size (w0.alloc k).drew w2) (ho : outL o = [x0, x1, x2]) :
    GotK w0 o (.pointer (some ⟨w2.heap.size, 0, none⟩)) (.bool o.isSome) (w2.alloc (.cells #[x0, x1, x2] 104)) := by
  have b1 : Below w0.heap.size w0 (w0.alloc k).drew := (bel_alloc w0 k).drew
  have b : Below w0.heap.size w0 w2 := b1.trans (b2.mono b1.size)
  refine ⟨_, rfl, rfl, b.size, b.trans ((bel_alloc w2 _).mono b.size), ?_⟩
  rw [ho]
  exact heap_alloc_new w2 _
theorem gotK_set {w0 w1 w2 : World} {o : Option ((Int × Nat) × Nat)} {g : Nat} {y0 y1 y2 x0 x1 x2 : Value} (hg : w0.heap.size ≤ g) (b1 : Below w0.heap.size w0 w1) (r : Row w1 g 104 [y0, y1, y2]) (b2 : Below w1.heap.size w1 w2) (ho : outL o = [x0, x1, x2]) :
    GotK w0 o (.pointer (some ⟨g, 0, none⟩)) (.bool o.isSome) (((w2.setCell ⟨g, 0, none⟩ x0).setCell ⟨g, 1, none⟩ x1).setCell ⟨g, 2, none⟩ x2) := by
  have b : Below w0.heap.size w0 w2 := b1.trans (b2.mono b1.size)
  refine ⟨_, rfl, rfl, hg, ((b.setCell hg x0).setCell hg x1).setCell hg x2, ?_⟩
  have := (((r.below b2).set 0 x0).set 1 x1).set 2 x2
  rw [ho]
  simpa using this
theorem gotK_mid {w0 w2 : World} {o : Option ((Int × Nat) × Nat)} {k : Obj} {y0 y1 y2 x0 x1 x2 : Value} (b2 : Below ((w0.alloc k).alloc (.cells #[y0, y1, y2] 104)).drew.heap.size ((w0.alloc k).alloc (.cells #[y0, y1, y2] 104)).drew w2) (ho : outL o = [x0, x1, x2]) :
    GotK w0 o (.pointer (some ⟨w0.heap.size + 1, 0, none⟩)) (.bool o.isSome) (((w2.setCell ⟨w0.heap.size + 1, 0, none⟩ x0).setCell ⟨w0.heap.size + 1, 1, none⟩ x1).setCell ⟨w0.heap.size + 1, 2, none⟩ x2) := by
  have b1 : Below w0.heap.size w0 ((w0.alloc k).alloc (.cells #[y0, y1, y2] 104)).drew := ((bel_alloc w0 k).trans ((bel_alloc _ _).mono (by simp))).drew
  have r : Row ((w0.alloc k).alloc (.cells #[y0, y1, y2] 104)) (w0.alloc k).heap.size 104 [y0, y1, y2] := heap_alloc_new _ _
  rw [World.size_alloc] at r
  exact gotK_set (by omega) b1 (show Row _ _ _ _ from r) b2 ho
theorem gotK_old {w0 w2 : World} {o : Option ((Int × Nat) × Nat)} {k : Obj} {y0 y1 y2 x0 x1 x2 : Value} (b2 : Below ((w0.alloc (.cells #[y0, y1, y2] 104)).alloc k).drew.heap.size ((w0.alloc (.cells #[y0, y1, y2] 104)).alloc k).drew w2) (ho : outL o = [x0, x1, x2]) :
    GotK w0 o (.pointer (some ⟨w0.heap.size, 0, none⟩)) (.bool o.isSome) (((w2.setCell ⟨w0.heap.size, 0, none⟩ x0).setCell ⟨w0.heap.size, 1, none⟩ x1).setCell ⟨w0.heap.size, 2, none⟩ x2) := by
  have b1 : Below w0.heap.size w0 ((w0.alloc (.cells #[y0, y1, y2] 104)).alloc k).drew := ((bel_alloc w0 _).trans ((bel_alloc _ _).mono (by simp))).drew
  have r : Row (w0.alloc (.cells #[y0, y1, y2] 104)) w0.heap.size 104 [y0, y1, y2] := heap_alloc_new _ _
  exact gotK_set (Nat.le_refl _) b1 (show Row _ _ _ _ from r.below (bel_alloc _ k).drew) b2 ho
end
end Go.Proofs.YtdafpfdmnccelaaDoor

namespace Go.Proofs.YtdafpfdmnccelaaDoor
open Go.RowKit

theorem Sr.part {w : World} {T : TypeId} {c g n cap base : Nat} {xs : List Value} (h : w.ownsRow base T c (.slice (some ⟨g, 0, none⟩) n cap) n xs) (h1 : ∀ u ∈ xs, u.oneCell' = true) (lo m k o : Nat) (ho : o = lo * c ∨ m = 0) (hm : lo + m ≤ n) : Sr w (.slice (some ⟨g, o, none⟩) m k) c m ((xs.drop (lo * c)).take (m * c)) := by
  obtain ⟨hl, ⟨h0, _⟩ | ⟨g', cap', cur, hv, _, hg, hn, hcm, hs, ht⟩⟩ := h
  · cases h0
  cases hv
  have hmc : lo * c + m * c ≤ n * c := by rw [← Nat.add_mul]; exact Nat.mul_le_mul_right _ hm
  refine ⟨by rw [List.length_take, List.length_drop]; omega, Or.inr ⟨_, _, rfl, fun j u hj => ?_⟩, fun u hu => h1 u (List.mem_of_mem_drop (List.mem_of_mem_take hu))⟩
  rw [List.getElem?_take] at hj
  split at hj
  · next hlt =>
    rcases ho with rfl | rfl
    · rw [Addr.add_at, cell_of_row w g _ _ _ _ hg]
      rw [List.getElem?_drop, ← ht, List.getElem?_take] at hj
      split at hj
      · simpa using hj
      · cases hj
    · simp at hlt
  · cases hj
theorem Sr.one1 {w : World} {g : Nat} {T : TypeId} {cs : Array Value} {c : Nat} (hg : w.heap[g]? = some (.cells cs T (0, 0))) (hc : cs.size = c) (h1 : ∀ u ∈ cs.toList, u.oneCell' = true) : Sr w (.slice (some ⟨g, 0, none⟩) 1 1) c 1 cs.toList :=
  ⟨by simp [hc], Or.inr ⟨_, _, rfl, fun j u hj => by rw [Addr.add_at, cell_of_row w g _ _ _ _ hg]; simpa using hj⟩, h1⟩

/-- The two parts of a row of elements of c cells, nil or not, as a walk cuts them. -/
theorem Sr.partsC {w : World} {T : TypeId} {c n cap base : Nat} {ao : Option Addr} {xs : List Value} (h : w.ownsRow base T c (.slice ao n cap) n xs) (h1 : ∀ u ∈ xs, u.oneCell' = true) (P : Nat) (hP : P ≤ n) :
    Sr w (.slice ao P cap) c P (xs.take (P * c)) ∧ ∃ A, (if cap = P then ao else Option.map (fun x => x.add (P * c)) ao) = A ∧ Sr w (.slice A (n - P) (cap - P)) c (n - P) (xs.drop (P * c)) := by
  rcases h.2 with ⟨hv, h0⟩ | ⟨g, cap', cur, hv, _, hg, hn, hcm, hs, ht⟩
  · cases hv
    have hx : xs = [] := List.eq_nil_of_length_eq_zero (by rw [h.1]; simp)
    subst hx
    have hP0 : P = 0 := by omega
    subst hP0
    exact ⟨⟨by simp, Or.inl ⟨rfl, rfl⟩, by simp⟩, none, by simp, ⟨by simp, Or.inl ⟨rfl, rfl⟩, by simp⟩⟩
  · cases hv
    have q1 := Sr.part h h1 0 P cap 0 (Or.inl (by omega)) (by omega)
    rw [Nat.zero_mul, List.drop_zero] at q1
    refine ⟨q1, ?_⟩
    have e2 : (xs.drop (P * c)).take ((n - P) * c) = xs.drop (P * c) := List.take_of_length_le (by rw [List.length_drop, h.1, Nat.sub_mul]; omega)
    by_cases hc : cap = P
    · have q2 := Sr.part h h1 P (n - P) (cap - P) 0 (Or.inr (by omega)) (by omega)
      rw [e2] at q2
      exact ⟨_, by rw [if_pos hc], q2⟩
    · have q2 := Sr.part h h1 P (n - P) (cap - P) (P * c) (Or.inl rfl) (by omega)
      rw [e2] at q2
      refine ⟨some ⟨g, P * c, none⟩, ?_, q2⟩
      rw [if_neg hc]
      simp [Addr.add_at]

theorem getA_perm {κ β : Type} [DecidableEq κ] {l m : List (κ × β)} (h : l.Perm m) (x : κ) : (getA l x).isSome = (getA m x).isSome := by
  unfold getA
  rw [Option.isSome_map, Option.isSome_map, Bool.eq_iff_iff, List.find?_isSome, List.find?_isSome]
  exact ⟨fun ⟨y, h1, h2⟩ => ⟨y, h.mem_iff.1 h1, h2⟩, fun ⟨y, h1, h2⟩ => ⟨y, h.mem_iff.2 h1, h2⟩⟩
theorem putA_perm {κ β : Type} [DecidableEq κ] {l m : List (κ × β)} (h : l.Perm m) (x : κ) (v : β) : (putA l x v).Perm (putA m x v) := by
  unfold putA
  rw [getA_perm h]
  split
  · exact h.map _
  · exact h.append_right _
theorem outs_nodup {L : List ((Int × Nat) × Nat)} (h : L.Pairwise (fun a b => keyI a.1 < keyI b.1)) : (L.map (·.1)).Nodup := by
  have : (L.map (·.1)).Pairwise (· ≠ ·) := by
    rw [List.pairwise_map]
    exact h.imp (fun {a b} hab e => by rw [e] at hab; omega)
  exact this
/-- It is there: its rank is another one. -/
theorem outs_set {l L : List ((Int × Nat) × Nat)} (h : OutsOf l L) {i : Nat} {x : Int × Nat} {m : Nat} (hi : L[i]? = some (x, m)) (r : Nat) : OutsOf (putA l x r) (L.set i (x, r)) := by
  have e := putA_set (outs_nodup h.2) (v := r) hi
  refine ⟨e ▸ putA_perm h.1 x r, ?_⟩
  obtain ⟨hi', he⟩ := List.getElem?_eq_some_iff.1 hi
  have hp := h.2
  rw [List.pairwise_iff_getElem] at hp ⊢
  have hk : ∀ (j : Nat) (hj : j < (L.set i (x, r)).length), keyI ((L.set i (x, r))[j]).1 = keyI (L[j]'(by simpa using hj)).1 := fun j hj => by
    rw [List.getElem_set]
    split
    · next e => subst e; rw [he]
    · rfl
  intro a b ha hb hab
  rw [hk a ha, hk b hb]
  exact hp a b _ _ hab
/-- It is new. -/
theorem outs_ins {l L : List ((Int × Nat) × Nat)} (h : OutsOf l L) {i : Nat} {x : Int × Nat} (hp : PlaceAt L (keyI x) i false) (r : Nat) : OutsOf (putA l x r) (L.take i ++ ([(x, r)] ++ L.drop i)) := by
  have hup : ∀ (j : Nat) z, i ≤ j → L[j]? = some z → keyI x < keyI z.1 := by
    intro j z hj hz
    rcases hp.hi with ⟨y, hy, h1, h2⟩ | ⟨h1, _⟩
    · have hne : keyI y.1 ≠ keyI x := by
        intro e
        simp [e] at h2
      by_cases e : j = i
      · subst e
        rw [hy] at hz
        cases hz
        omega
      · obtain ⟨hi', he⟩ := List.getElem?_eq_some_iff.1 hy
        obtain ⟨hj', hej⟩ := List.getElem?_eq_some_iff.1 hz
        have hpw := h.2
        rw [List.pairwise_iff_getElem] at hpw
        have := hpw i j hi' hj' (by omega)
        rw [he, hej] at this
        omega
    · have := (List.getElem?_eq_some_iff.1 hz).1
      omega
  have hnone : getA L x = none := by
    unfold getA
    rw [Option.map_eq_none_iff, List.find?_eq_none]
    intro y hy
    obtain ⟨j, hj, rfl⟩ := List.getElem_of_mem hy
    have hne : L[j].1 ≠ x := by
      intro e
      by_cases hji : j < i
      · have := hp.lo j _ hji (List.getElem?_eq_getElem hj)
        rw [e] at this
        omega
      · have := hup j _ (by omega) (List.getElem?_eq_getElem hj)
        rw [e] at this
        omega
    simpa using hne
  refine ⟨?_, ?_⟩
  · have h1 := putA_perm h.1 x r
    rw [putA_new hnone] at h1
    refine List.Perm.trans ?_ h1
    have h2 : (L.take i ++ ([(x, r)] ++ L.drop i)).Perm ((x, r) :: (L.take i ++ L.drop i)) := List.perm_middle
    rw [List.take_append_drop] at h2
    exact h2.trans (List.perm_append_singleton _ _).symm
  · rw [List.pairwise_append, List.singleton_append, List.pairwise_cons]
    have hlo : ∀ y ∈ L.take i, keyI y.1 < keyI x := by
      intro y hy
      obtain ⟨j, hj, rfl⟩ := List.getElem_of_mem hy
      rw [List.length_take] at hj
      rw [List.getElem_take]
      exact hp.lo j _ (by omega) (List.getElem?_eq_getElem (by omega))
    have hhi : ∀ z ∈ L.drop i, keyI x < keyI z.1 := by
      intro z hz
      obtain ⟨j, hj, rfl⟩ := List.getElem_of_mem hz
      rw [List.length_drop] at hj
      rw [List.getElem_drop]
      exact hup (i + j) _ (by omega) (List.getElem?_eq_getElem (by omega))
    refine ⟨h.2.sublist (List.take_sublist _ _), ⟨hhi, h.2.sublist (List.drop_sublist _ _)⟩, fun y hy z hz => ?_⟩
    rcases List.mem_cons.1 hz with rfl | hz
    · exact hlo y hy
    · have := hlo y hy
      have := hhi z hz
      omega
theorem osV_take (L : List ((Int × Nat) × Nat)) (i : Nat) : osV (L.take i) = (osV L).take (i * 3) := by
  induction L generalizing i with
  | nil => simp [osV]
  | cons x L ih =>
    cases i with
    | zero => simp [osV]
    | succ i =>
      have e : (i + 1) * 3 = i * 3 + 3 := by omega
      rw [e, List.take_succ_cons]
      show oV x ++ osV (L.take i) = (oV x ++ osV L).take (i * 3 + 3)
      rw [ih]
      rfl
theorem osV_drop (L : List ((Int × Nat) × Nat)) (i : Nat) : osV (L.drop i) = (osV L).drop (i * 3) := by
  induction L generalizing i with
  | nil => simp [osV]
  | cons x L ih =>
    cases i with
    | zero => simp [osV]
    | succ i =>
      have e : (i + 1) * 3 = i * 3 + 3 := by omega
      rw [e, List.drop_succ_cons]
      show osV (L.drop i) = (oV x ++ osV L).drop (i * 3 + 3)
      rw [ih]
      rfl
theorem osV_set (l : List ((Int × Nat) × Nat)) (i : Nat) (x : (Int × Nat) × Nat) : osV (l.set i x) = (((osV l).set (i * 3) (.int .i64 x.1.1)).set (i * 3 + 1) (.int .u64 (x.1.2 : Int))).set (i * 3 + 2) (.int .i64 (x.2 : Int)) := by
  induction l generalizing i with
  | nil => simp [osV]
  | cons y l ih =>
    cases i with
    | zero => rfl
    | succ i =>
      have e0 : (i + 1) * 3 = i * 3 + 3 := by omega
      have e1 : (i + 1) * 3 + 1 = i * 3 + 1 + 3 := by omega
      have e2 : (i + 1) * 3 + 2 = i * 3 + 2 + 3 := by omega
      rw [e1, e2, e0]
      show oV y ++ osV (l.set i x) = (((oV y ++ osV l).set (i * 3 + 3) _).set (i * 3 + 1 + 3) _).set (i * 3 + 2 + 3) _
      rw [ih]
      rfl

section
variable {w w1 : World} {qb rb base : Nat} {sv mv kv vv kv' vv' : Value} {p : PSt} {L : List ((Int × Nat) × Nat)}
/-- What was met lies in two new lists. -/
theorem RQ.table (x : RQ w qb rb base sv mv kv vv p L) {me' L' : List ((Int × Nat) × Nat)} (hb : Below w.heap.size w w1) (hk : w1.ownsRow w.heap.size 39 1 kv' L'.length (L'.map (fun o => uV (keyI o.1)))) (hv : w1.ownsRow w.heap.size 104 3 vv' L'.length (osV L')) (hd : ∀ k, kv'.ownBlock = some k → vv'.ownBlock ≠ some k) (hs : OutsOf me' L') (hl : L'.length ≤ 1000000) :
    (RQ ((w1.setCell ⟨qb, 7, none⟩ kv').setCell ⟨qb, 8, none⟩ vv') qb rb base sv mv kv' vv' { p with me := me' } L' ∧ Kept w ((w1.setCell ⟨qb, 7, none⟩ kv').setCell ⟨qb, 8, none⟩ vv') (qBl qb sv mv kv vv) ∧ Moved w kv kv' ∧ Moved w vv vv') ∧ w1.cell? ⟨qb, 7, none⟩ = some kv ∧ w1.cell? ⟨qb, 8, none⟩ = some vv ∧ w1.frozen? ⟨qb, 7, none⟩ = false ∧ w1.frozen? ⟨qb, 8, none⟩ = false ∧ qb < w1.heap.size := by
  have y := x.below hb
  have hbs : base ≤ w.heap.size := by have := x.ge; have := x.box.lt; omega
  obtain ⟨o1, o2, o3, o4⟩ := x.offq
  have hlt := x.lt
  have hnk : ∀ k, kv'.ownBlock = some k → w.heap.size ≤ k := fun k e => (ownc_lt hk k e).1
  have hnv : ∀ k, vv'.ownBlock = some k → w.heap.size ≤ k := fun k e => (ownc_lt hv k e).1
  have hkb : Kept w1 ((w1.setCell ⟨qb, 7, none⟩ kv').setCell ⟨qb, 8, none⟩ vv') (fun k => k = qb) := (Kept.setCell w1 ⟨qb, 7, none⟩ kv').trans (Kept.setCell _ ⟨qb, 8, none⟩ vv') (fun _ _ e => e)
  have hno : ∀ {v : Value}, v.ownBlock ≠ some qb → ∀ k, v.ownBlock = some k → ¬ (k = qb) := fun h k e e' => h (by rw [e, e'])
  have hq1 : kv'.ownBlock ≠ some qb := fun e => by have := hnk qb e; have := x.box.lt; omega
  have hq2 : vv'.ownBlock ≠ some qb := fun e => by have := hnv qb e; have := x.box.lt; omega
  have mono3 : ∀ {E : TypeId} {c n : Nat} {v : Value} {l : List Value}, w1.ownsRow w.heap.size E c v n l → w1.ownsRow base E c v n l := fun h => by
    refine ⟨h.1, ?_⟩
    rcases h.2 with h1 | ⟨g, cap, cur, rfl, h2, h3⟩
    · exact Or.inl h1
    · exact Or.inr ⟨g, cap, cur, rfl, Nat.le_trans hbs h2, h3⟩
  refine ⟨⟨⟨(y.box.set 7 kv').set 8 vv', own_kept y.sl hkb (hno o1), own_kept y.ml hkb (hno o2), own_kept (mono3 hk) hkb (hno hq1), own_kept (mono3 hv) hkb (hno hq2), hs, fun k => ⟨fun e => ?_, fun e => ?_, fun e => ⟨fun e' => hq1 (by rw [e, e']), hd k e⟩, fun e e' => hq2 (by rw [e, e'])⟩, x.ge, x.few.1, x.few.2.1, x.few.2.2.1, x.few.2.2.2.1, hl⟩, (kept_of_below hb _).trans hkb (fun _ _ e => Or.inl e), fun k e => Or.inr (hnk k e), fun k e => Or.inr (hnv k e)⟩, y.box.cell 7 (by simp), y.box.cell 8 (by simp), y.box.frozen 7, y.box.frozen 8, y.box.lt⟩
  · obtain ⟨d1, d2, d3, d4⟩ := (x.d k).1 e
    have := hlt k (Or.inr (Or.inl e))
    exact ⟨d1, d2, fun e' => by have := hnk k e'; omega, fun e' => by have := hnv k e'; omega⟩
  · obtain ⟨d1, d2, d3⟩ := (x.d k).2.1 e
    have := hlt k (Or.inr (Or.inr (Or.inl e)))
    exact ⟨d1, fun e' => by have := hnk k e'; omega, fun e' => by have := hnv k e'; omega⟩
/-- One rank is written. -/
theorem RQ.rank (x : RQ w qb rb base sv mv kv vv p L) {i : Nat} {id : Int × Nat} {m : Nat} (hi : L[i]? = some (id, m)) (r : Nat) :
    ∃ g cap, vv = .slice (some ⟨g, 0, none⟩) L.length cap ∧ g < w.heap.size ∧ (∀ j, w.frozen? ⟨g, j, none⟩ = false) ∧ (∃ a b c, w.cell? ⟨g, i * 3, none⟩ = some a ∧ w.cell? ⟨g, i * 3 + 1, none⟩ = some b ∧ w.cell? ⟨g, i * 3 + 2, none⟩ = some c) ∧ ∀ w1, Below w.heap.size w w1 →
    RQ (((w1.setCell ⟨g, i * 3, none⟩ (.int .i64 id.1)).setCell ⟨g, i * 3 + 1, none⟩ (.int .u64 (id.2 : Int))).setCell ⟨g, i * 3 + 2, none⟩ (.int .i64 (r : Int))) qb rb base sv mv kv vv { p with me := putA p.me id r } (L.set i (id, r)) ∧ Kept w (((w1.setCell ⟨g, i * 3, none⟩ (.int .i64 id.1)).setCell ⟨g, i * 3 + 1, none⟩ (.int .u64 (id.2 : Int))).setCell ⟨g, i * 3 + 2, none⟩ (.int .i64 (r : Int))) (qBl qb sv mv kv vv) := by
  obtain ⟨hi', he⟩ := List.getElem?_eq_some_iff.1 hi
  obtain ⟨o1, o2, o3, o4⟩ := x.offq
  obtain ⟨g, cap, hv, _, hgl, hcap, hc, hf⟩ := ownc_cell x.vl (by omega)
  have hg : vv.ownBlock = some g := by rw [hv]; rfl
  have hgq : g ≠ qb := fun e => o4 (by rw [hg, e])
  have hat := osV_at L i hi'
  refine ⟨g, cap, hv, hgl, hf, ⟨_, _, _, hc _ _ hat.1, hc _ _ hat.2.1, hc _ _ hat.2.2⟩, fun w1 hb => ?_⟩
  have y := x.below hb
  have hk : Kept w1 (((w1.setCell ⟨g, i * 3, none⟩ (.int .i64 id.1)).setCell ⟨g, i * 3 + 1, none⟩ (.int .u64 (id.2 : Int))).setCell ⟨g, i * 3 + 2, none⟩ (.int .i64 (r : Int))) (fun k => vv.ownBlock = some k) := (((Kept.setCell w1 ⟨g, i * 3, none⟩ (.int .i64 id.1)).trans (Kept.setCell _ ⟨g, i * 3 + 1, none⟩ (.int .u64 (id.2 : Int))) (fun _ _ e => e)).trans (Kept.setCell _ ⟨g, i * 3 + 2, none⟩ (.int .i64 (r : Int))) (fun _ _ e => e)).mono (fun k _ e => by
    have e' : k = g := e
    rw [hg, e'])
  have hvl : (((w1.setCell ⟨g, i * 3, none⟩ (.int .i64 id.1)).setCell ⟨g, i * 3 + 1, none⟩ (.int .u64 (id.2 : Int))).setCell ⟨g, i * 3 + 2, none⟩ (.int .i64 (r : Int))).ownsRow base 104 3 vv (L.set i (id, r)).length (osV (L.set i (id, r))) := by
    rw [List.length_set, osV_set]
    rcases y.vl.2 with ⟨h0, _⟩ | ⟨g3, cap3, cur, hv3, hb3, hg3, hn3, hm3, hs3, ht3⟩
    · rw [h0] at hg; cases hg
    · have e3 : g3 = g := by rw [hv3] at hg; simpa [Value.ownBlock] using hg
      subst e3
      have hs1 := heap_setCell_same w1 g3 (i * 3) _ _ (.int .i64 id.1) hg3
      have hs2 := heap_setCell_same _ g3 (i * 3 + 1) _ _ (.int .u64 (id.2 : Int)) hs1
      have hs4 := heap_setCell_same _ g3 (i * 3 + 2) _ _ (.int .i64 (r : Int)) hs2
      refine ⟨by rw [List.length_set, List.length_set, List.length_set]; exact y.vl.1, Or.inr ⟨g3, cap3, _, hv3, hb3, hs4, hn3, hm3, by simpa using hs3, ?_⟩⟩
      rw [Array.toList_setIfInBounds, Array.toList_setIfInBounds, Array.toList_setIfInBounds, List.take_set, List.take_set, List.take_set, ht3]
  have hkl : (L.set i (id, r)).map (fun o => uV (keyI o.1)) = L.map (fun o => uV (keyI o.1)) := by
    rw [List.map_set]
    apply List.ext_getElem?
    intro j
    rw [List.getElem?_set]
    split
    · next e =>
      subst e
      rw [List.getElem?_map, hi, if_pos (by simpa using hi')]
      rfl
    · rfl
  exact ⟨⟨y.box.kept hk o4, own_kept y.sl hk (fun k e e' => ((x.d k).1 e).2.2.2 e'), own_kept y.ml hk (fun k e e' => ((x.d k).2.1 e).2.2 e'), by rw [List.length_set, hkl]; exact own_kept y.kl hk (fun k e e' => ((x.d k).2.2.1 e).2 e'), hvl, outs_set x.srt hi r, x.d, x.ge, x.few.1, x.few.2.1, x.few.2.2.1, x.few.2.2.2.1, by rw [List.length_set]; exact x.few.2.2.2.2⟩, (kept_of_below hb _).trans (hk.mono (S' := qBl qb sv mv kv vv) (fun k _ e => Or.inr (Or.inr (Or.inr (Or.inr e))))) (fun _ _ e => e)⟩
end
end Go.Proofs.YtdafpfdmnccelaaDoor
