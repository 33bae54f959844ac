import Derived.Test.YtebcigjnjapcgaaDoorPaTP
import Derived.Deep.CutRange
/- The plain paint in memory. -/
/- The plain Mark. -/
/- The plain table of what was met: place. -/
/- The plain table of what was met: Get. -/
/- The plain Outs. -/
/- The plain stack within a paint: Push. -/
/- The plain stack within a paint: Push. -/
/- The program's Pop, Rest, Blacken, Forget. -/
namespace Go.Proofs.YtebcigjnjapcgaaDoor
open Go.RowKit

/-- The cells of a mark, of marks. -/
def m3V (e : Nat × (Nat × Bool)) : List Value := [.int .u64 (e.1 : Int), .int .i64 (e.2.1 : Int), .bool e.2.2]
def msV (l : List (Nat × (Nat × Bool))) : List Value := l.flatMap m3V
theorem msV_app (a b : List (Nat × (Nat × Bool))) : msV (a ++ b) = msV a ++ msV b := by unfold msV; rw [List.flatMap_append]
theorem msV_len (l : List (Nat × (Nat × Bool))) : (msV l).length = l.length * 3 := by
  induction l with
  | nil => rfl
  | cons x l ih => unfold msV at *; rw [List.flatMap_cons, List.length_append, ih]; simp [m3V]; omega
theorem msV_at : ∀ (l : List (Nat × (Nat × Bool))) (i : Nat) (hi : i < l.length), (msV l)[i * 3]? = some (.int .u64 (l[i].1 : Int)) ∧ (msV l)[i * 3 + 1]? = some (.int .i64 (l[i].2.1 : Int)) ∧ (msV l)[i * 3 + 2]? = some (.bool l[i].2.2)
  | x :: l, 0, _ => ⟨rfl, rfl, rfl⟩
  | x :: l, i + 1, hi => by
    have := msV_at l i (by simpa using hi)
    have e1 : (i + 1) * 3 = i * 3 + 3 := by omega
    rw [e1]
    exact this
/-- Its blocks. -/
def qBl (qb : Nat) (sv mv kv vv : Value) (k : Nat) : Prop := k = qb ∨ sv.ownBlock = some k ∨ mv.ownBlock = some k ∨ kv.ownBlock = some k ∨ vv.ownBlock = some k
/-- What find answers: where the first mark of that serial lies. -/
def FoundAt (mv : Value) (l : List (Nat × (Nat × Bool))) (s : Nat) (e : Ending) : Prop := (∃ i m g cap, e = .returned (.pointer (some ⟨g, i * 3, none⟩)) ∧ mv = .slice (some ⟨g, 0, none⟩) l.length cap ∧ l[i]? = some (s, m) ∧ ∀ j y, j < i → l[j]? = some y → y.1 ≠ s) ∨ (e = .returned (.pointer none) ∧ ∀ y ∈ l, y.1 ≠ s)
section
variable {w w' : World} {qb rb base : Nat} {sv mv kv vv : Value} {p : PSt} {L : List ((Int × Nat) × Nat)} {S : Nat → Prop}
/-- The cells of a row of one's own. -/
theorem ownc_cell {E : TypeId} {c n : Nat} {v : Value} {l : List Value} (h : w.ownsRow base E c v n l) (h0 : 0 < n) : ∃ g cap, v = .slice (some ⟨g, 0, none⟩) n cap ∧ base ≤ g ∧ g < w.heap.size ∧ n ≤ cap ∧ (∀ j u, l[j]? = some u → w.cell? ⟨g, j, none⟩ = some u) ∧ ∀ j, w.frozen? ⟨g, j, none⟩ = false := by
  rcases h.2 with ⟨_, hn⟩ | ⟨g, cap, cur, hv, hb, hg, hn, hm, hs, ht⟩
  · omega
  · refine ⟨g, cap, hv, hb, (Array.getElem?_eq_some_iff.1 hg).1, hn, fun j u hu => ?_, fun j => frozen_of_row w g j _ _ hg⟩
    rw [cell_of_row w g j _ _ _ hg]
    rw [← ht] at hu
    have hlt : j < n * c := by
      have h1 := (List.getElem?_eq_some_iff.1 hu).1
      rw [List.length_take] at h1
      omega
    rw [List.getElem?_take_of_lt hlt] at hu
    simpa using hu

end

end Go.Proofs.YtebcigjnjapcgaaDoor

namespace Go.Proofs.YtebcigjnjapcgaaDoor
open Go.RowKit

theorem found_get {l : List (Nat × (Nat × Bool))} {i s : Nat} {m : Nat × Bool} (h1 : l[i]? = some (s, m)) (h2 : ∀ j y, j < i → l[j]? = some y → y.1 ≠ s) : getA l s = some m := by
  unfold getA
  have h3 : l.find? (fun p => decide (p.1 = s)) = some (s, m) := by
    rw [List.find?_eq_some_iff_getElem]
    obtain ⟨hi, hv⟩ := List.getElem?_eq_some_iff.1 h1
    refine ⟨by simp, i, hi, hv, fun j hj => ?_⟩
    have := h2 j _ hj (List.getElem?_eq_getElem (by omega))
    simpa using this
  rw [h3]
  rfl
theorem found_no {l : List (Nat × (Nat × Bool))} {s : Nat} (h : ∀ y ∈ l, y.1 ≠ s) : getA l s = none := by
  unfold getA
  rw [Option.map_eq_none_iff, List.find?_eq_none]
  intro y hy
  simpa using h y hy
section
variable {w w' : World} {qb rb base ra rc rt : Nat} {sv mv kv vv lv : Value} {p : PSt} {L : List ((Int × Nat) × Nat)} {h : HSt} {M : List Pl}
end

end Go.Proofs.YtebcigjnjapcgaaDoor

namespace Go.Proofs.YtebcigjnjapcgaaDoor
open Go.RowKit

/-- What place answers. -/
structure PlaceAt (L : List ((Int × Nat) × Nat)) (k i : Nat) (ok : Bool) : Prop where
  le : i ≤ L.length
  lo : ∀ j y, j < i → L[j]? = some y → keyI y.1 < k
  hi : (∃ y, L[i]? = some y ∧ k ≤ keyI y.1 ∧ ok = decide (keyI y.1 = k)) ∨ (i = L.length ∧ ok = false)
def Placed (L : List ((Int × Nat) × Nat)) (k : Nat) (w w' : World) (e : Ending) : Prop := ∃ (i : Nat) (ok : Bool), e = .returned (.tuple #[.int .i64 (i : Int), .bool ok]) ∧ PlaceAt L k i ok ∧ Below w.heap.size w w'
theorem Placed.of {L : List ((Int × Nat) × Nat)} {k : Nat} {w w' : World} {e : Ending} (i : Nat) (ok : Bool) (h1 : e = .returned (.tuple #[.int .i64 (i : Int), .bool ok])) (h2 : PlaceAt L k i ok) (h3 : Below w.heap.size w w') : Placed L k w w' e := ⟨i, ok, h1, h2, h3⟩
section
variable {w w' : World} {qb rb base : Nat} {sv mv kv vv : Value} {p : PSt} {L : List ((Int × Nat) × Nat)}
end

end Go.Proofs.YtebcigjnjapcgaaDoor

namespace Go.Proofs.YtebcigjnjapcgaaDoor
open Go.RowKit

/-- What stands at a key. -/
def atK (L : List ((Int × Nat) × Nat)) (k : Nat) : Option ((Int × Nat) × Nat) := L.find? (fun o => decide (keyI o.1 = k))
theorem PlaceAt.get {L : List ((Int × Nat) × Nat)} {k i : Nat} {ok : Bool} (hs : L.Pairwise (fun a b => keyI a.1 < keyI b.1)) (h : PlaceAt L k i ok) : (ok = true ∧ ∃ y, L[i]? = some y ∧ atK L k = some y) ∨ (ok = false ∧ atK L k = none) := by
  have hup : ∀ (j : Nat) y z, i < j → L[i]? = some y → L[j]? = some z → keyI y.1 < keyI z.1 := fun j y z hj hy hz => by
    obtain ⟨h1, e1⟩ := List.getElem?_eq_some_iff.1 hy
    obtain ⟨h2, e2⟩ := List.getElem?_eq_some_iff.1 hz
    rw [List.pairwise_iff_getElem] at hs
    have := hs i j h1 h2 hj
    rw [e1, e2] at this
    exact this
  rcases h.hi with ⟨y, hy, hk, ho⟩ | ⟨he, ho⟩
  · by_cases e : keyI y.1 = k
    · left
      refine ⟨by rw [ho]; simp [e], y, hy, ?_⟩
      unfold atK
      rw [List.find?_eq_some_iff_getElem]
      obtain ⟨h1, e1⟩ := List.getElem?_eq_some_iff.1 hy
      refine ⟨by simp [e], i, h1, e1, fun j hj => ?_⟩
      have := h.lo j _ hj (List.getElem?_eq_getElem (by omega))
      have hne : ¬ keyI (L[j]).1 = k := by omega
      simpa using hne
    · right
      refine ⟨by rw [ho]; simp [e], ?_⟩
      unfold atK
      rw [List.find?_eq_none]
      intro z hz
      obtain ⟨j, hj, rfl⟩ := List.getElem_of_mem hz
      have hne : ¬ keyI (L[j]).1 = k := by
        by_cases h1 : j < i
        · have := h.lo j _ h1 (List.getElem?_eq_getElem hj)
          omega
        · by_cases h2 : j = i
          · subst h2
            rw [List.getElem?_eq_getElem hj] at hy
            cases hy
            exact e
          · have := hup j y _ (by omega) hy (List.getElem?_eq_getElem hj)
            omega
      simpa using hne
  · right
    refine ⟨ho, ?_⟩
    unfold atK
    rw [List.find?_eq_none]
    intro z hz
    obtain ⟨j, hj, rfl⟩ := List.getElem_of_mem hz
    have := h.lo j _ (by omega) (List.getElem?_eq_getElem hj)
    have hne : ¬ keyI (L[j]).1 = k := by omega
    simpa using hne
/-- An Out as a value; none. -/
def outV (o : Option ((Int × Nat) × Nat)) : Value := match o with
  | some y => .agg #[.int .i64 y.1.1, .int .u64 (y.1.2 : Int), .int .i64 (y.2 : Int)]
  | none => .agg #[.int .i64 0, .int .u64 0, .int .i64 0]
section
variable {w w' : World} {qb rb base : Nat} {sv mv kv vv : Value} {p : PSt} {L : List ((Int × Nat) × Nat)}
end

end Go.Proofs.YtebcigjnjapcgaaDoor

namespace Go.Proofs.YtebcigjnjapcgaaDoor
open Go.RowKit

theorem osV_one (L : List ((Int × Nat) × Nat)) : ∀ u ∈ osV L, u.oneCell' = true := by
  intro u hu
  unfold osV at hu
  obtain ⟨o, _, hu⟩ := List.mem_flatMap.1 hu
  simp only [oV, List.mem_cons, List.not_mem_nil, or_false] at hu
  rcases hu with rfl | rfl | rfl <;> rfl
section
variable {w w' : World} {qb rb base : Nat} {sv mv kv vv : Value} {p : PSt} {L : List ((Int × Nat) × Nat)}
end

end Go.Proofs.YtebcigjnjapcgaaDoor

namespace Go.Proofs.YtebcigjnjapcgaaDoor
open Go.RowKit

theorem own_mono1 {w : World} {b b' n : Nat} {E : TypeId} {v : Value} {l : List Value} (h : w.ownsRow b E 1 v n l) (hb : b' ≤ b) : w.ownsRow b' E 1 v n l := by
  refine ⟨h.1, ?_⟩
  rcases h.2 with h1 | ⟨g, cap, cur, rfl, h2, h3⟩
  · exact Or.inl h1
  · exact Or.inr ⟨g, cap, cur, rfl, Nat.le_trans hb h2, h3⟩
section
variable {w w1 : World} {qb rb base : Nat} {sv mv kv vv sv1 : Value} {p : PSt} {L : List ((Int × Nat) × Nat)}
end

end Go.Proofs.YtebcigjnjapcgaaDoor

namespace Go.Proofs.YtebcigjnjapcgaaDoor
open Go.RowKit

theorem own_empty1 {w : World} {g base : Nat} {E : TypeId} (h : w.heap[g]? = some (.cells #[] E (0, 0))) (hb : base ≤ g) : w.ownsRow base E 1 (.slice (some ⟨g, 0, none⟩) 0 0) 0 [] :=
  ⟨by simp, Or.inr ⟨_, 0, #[], rfl, hb, h, Nat.le_refl _, Nat.zero_le _, by simp, by simp⟩⟩
theorem Tryd.infoW : (Tryd.prog.info? 39).map (fun i => (i.zero, i.size, i.bytes)) = some (some (.int .u64 0), 1, 8) := by kernel_rfl
section
variable {w : World} {qb rb base : Nat} {sv mv kv vv : Value} {p : PSt} {L : List ((Int × Nat) × Nat)}
end

end Go.Proofs.YtebcigjnjapcgaaDoor

namespace Go.Proofs.YtebcigjnjapcgaaDoor
open Go.RowKit
open Go.ChangeMaps (setBlock)

section
variable {κ : Type} [DecidableEq κ] {enc : κ → Value} {w w' : World} {b : Nat} {es : List (κ × Value)} {kt : TypeId}
theorem kv_del {l1 l2 : List (En κ)} {t : En κ} {x : κ} (ht : t.k = x) (hnd : (((l1 ++ t :: l2).map En.kv).map (·.1)).Nodup) : (l1 ++ l2).map En.kv = delQ ((l1 ++ t :: l2).map En.kv) x := by
  have hnd' : ((l1 ++ t :: l2).map En.k).Nodup := by rw [List.map_map] at hnd; exact hnd
  rw [List.map_append, List.map_cons, List.nodup_append, List.nodup_cons] at hnd'
  obtain ⟨_, ⟨n2, _⟩, n1⟩ := hnd'
  unfold delQ
  rw [List.map_append, List.map_append, List.map_cons, List.filter_append, List.filter_cons]
  have e1 : ∀ m : List (En κ), (∀ u ∈ m, u.k ≠ x) → (m.map En.kv).filter (fun p => decide (p.1 ≠ x)) = m.map En.kv := fun m hm => by
    rw [List.filter_eq_self]
    intro p hp
    obtain ⟨u, hu, rfl⟩ := List.mem_map.1 hp
    exact decide_eq_true (hm u hu)
  rw [e1 l1 (fun u hu e => n1 _ (List.mem_map.2 ⟨u, hu, rfl⟩) _ (by simp) (e.trans ht.symm)), e1 l2 (fun u hu e => n2 (List.mem_map.2 ⟨u, hu, e.trans ht.symm⟩))]
  rw [if_neg (by simp [En.kv, ht])]
theorem findL_none {x : κ} : ∀ {l : List (En κ)} {i : Nat}, findL x l i = none → ∀ u ∈ l, u.k ≠ x
  | [], _, _ => by simp
  | t :: l, i, h => by
    unfold findL at h
    by_cases e : t.k = x
    · rw [if_pos e] at h
      cases h
    · rw [if_neg e] at h
      intro u hu
      rcases List.mem_cons.1 hu with rfl | hu
      · exact e
      · exact findL_none h u hu
/-- 'delete(m, k)'. -/
theorem MQ.del (K : KL kt enc) (h : MQ enc w b es) {T E : TypeId} (hT : Tryd.prog.underlying T = some (.map kt E)) (x : κ) (T2 : TypeId) :
    ∃ o o', w.heap[b]? = some o ∧ (∀ (W : World) (ty : TypeId), W.heap[b]? = some o → (Builtin.delete_ #[T, T2] ty #[.map (some b), enc x]).run Tryd.prog W = .ok (.tuple #[]) (setBlock W b o')) ∧ ∀ W : World, b < W.heap.size → MQ enc (setBlock W b o') b (delQ es x) := by
  have hnd := h.nd
  have hpn : ((delQ es x).map (·.1)).Nodup := hnd.sublist (List.filter_sublist.map _)
  obtain ⟨l, c, hb, rfl, hc, hp⟩ := h.ex
  cases hf : findL x l 0 with
  | none =>
    refine ⟨_, .map (l.map (En.e enc)).toArray c, hb, fun W ty hW => ?_, fun W hW => ⟨⟨l, c, ?_, ?_, hc, hp⟩, hpn⟩⟩
    · have hfi := K.find W x l
      rw [hf] at hfi
      simp [Builtin.delete_, run_underlying hT, MapKept.run_getObj_map hW, K.check W, hfi, MapKept.run_setObj_map _ hW, Result.andThen, setBlock]
    · rw [heap_setBlock _ hW]
    · unfold delQ
      rw [eq_comm, List.filter_eq_self]
      intro p hp
      obtain ⟨u, hu, rfl⟩ := List.mem_map.1 hp
      exact decide_eq_true (findL_none hf u hu)
  | some p =>
    obtain ⟨j, u⟩ := p
    obtain ⟨l1, t, l2, hl, ht, hj, _⟩ := findL_some hf
    rw [Nat.zero_add] at hj
    refine ⟨_, .map ((l.map (En.e enc)).toArray.eraseIdxIfInBounds j) c, hb, fun W ty hW => ?_, fun W hW => ⟨⟨l1 ++ l2, c, ?_, ?_, ?_, ?_⟩, hpn⟩⟩
    · have hfi := K.find W x l
      rw [hf] at hfi
      generalize (l.map (En.e enc)) = L at *
      simp [Builtin.delete_, run_underlying hT, MapKept.run_getObj_map hW, K.check W, hfi, MapKept.run_setObj_map _ hW, Result.andThen, setBlock]
    · rw [heap_setBlock _ hW]
      have e : (l.map (En.e enc)).toArray.eraseIdxIfInBounds j = ((l1 ++ l2).map (En.e enc)).toArray := by
        apply Array.ext'
        rw [hl, hj, Array.toList_eraseIdxIfInBounds]
        show ((l1 ++ t :: l2).map (En.e enc)).eraseIdx l1.length = (l1 ++ l2).map (En.e enc)
        rw [List.map_append, List.map_append, List.map_cons]
        have h1 : ∀ (a : List MapEntry) (y : MapEntry) (c : List MapEntry), (a ++ y :: c).eraseIdx a.length = a ++ c := fun a y c => by
          induction a with
          | nil => rfl
          | cons z a ih => simpa using ih
        have h2 := h1 (l1.map (En.e enc)) (En.e enc t) (l2.map (En.e enc))
        rw [List.length_map] at h2
        exact h2
      rw [e]
    · subst hl
      exact kv_del ht hnd
    · intro y hy
      subst hl
      rcases List.mem_append.1 hy with hy | hy
      · exact hc y (List.mem_append_left _ hy)
      · exact hc y (by simp [hy])
    · subst hl
      rw [List.map_append, List.map_cons, List.pairwise_append, List.pairwise_cons] at hp
      rw [List.map_append, List.pairwise_append]
      exact ⟨hp.1, hp.2.1.2, fun a ha d hd => hp.2.2 a ha d (List.mem_cons_of_mem _ hd)⟩
theorem del_map {β : Type} (f : β → Value) (l : List (κ × β)) (x : κ) : delQ (l.map (fun e => (e.1, f e.2))) x = (delA l x).map (fun e => (e.1, f e.2)) := by
  unfold delQ delA
  rw [List.filter_map]
  rfl
end

/-- What is popped. -/
def popR (p : PSt) : Nat × Bool := match p.stk.getLast? with
  | some a => (a, true)
  | none => (0, false)
def PSt.pop (p : PSt) : PSt := { p with stk := p.stk.dropLast }
def PSt.rest (p : PSt) : PSt := { p with ov := false }
def PSt.forget (p : PSt) (s : Nat) : PSt := { p with ma := delA p.ma s }
section
variable {w w' : World} {pb hb base sb mb tb : Nat} {v v' : Value} {p p' : PSt} {F : Nat → Prop} {h : HSt}
set_option maxRecDepth 20000 in
set_option maxHeartbeats 400000 in
theorem ppop_any (x : PX w pb hb base sb mb tb v p) :
    Calls Tryd.prog 55 #[.pointer (some ⟨pb, 0, none⟩)] w fun e w' => e = .returned (.tuple #[.int .u64 ((popR p).1 : Int), .bool (popR p).2]) ∧ PGo w w' pb hb base (pBl pb sb mb tb v) p.pop := by
  have c2 := x.c2
  rcases List.eq_nil_or_concat p.stk with e | ⟨l, a, e⟩
  · have hp := x.sk
    rw [e] at hp
    have hP := popU_none hp
    have e1 : popR p = (0, false) := by unfold popR; rw [e]; rfl
    have e2 : p.pop = p := by unfold PSt.pop; rw [e]; cases p; cases e; rfl
    rw [e1, e2]
    have HX : Hid _ := hidden (x.pn.stay (Below.refl _ _))
    clear hp e e1 e2 x
    go_enter Tryd.func55, Tryd.ntmps55
    go_wp2_with (go_at_call 69; refine hP.mono ?_; rintro e _ ⟨rfl, rfl⟩)
    go_ret2
    exact ⟨rfl, HX.out⟩
  · rw [List.concat_eq_append] at e
    have hp := x.sk
    rw [e, List.map_append, List.map_cons, List.map_nil] at hp
    have hP := popU_some hp
    have e1 : popR p = (a, true) := by unfold popR; rw [e]; simp
    have e2 : p.pop = { p with stk := l, ov := p.ov } := by unfold PSt.pop; rw [e]; simp
    rw [e1, e2]
    have HX : Hid (∀ w' v', GoU w w' sb base v v' p.M (l.map (fun n : Nat => (n : Int))) p.ov → PGo w w' pb hb base (pBl pb sb mb tb v) { p with stk := l, ov := p.ov }) := fun w' v' g => (x.stack g).went (g.k.mono (fun k _ e => Or.inr (Or.inl e))) g.m
    clear hp e e1 e2 x
    go_enter Tryd.func55, Tryd.ntmps55
    go_wp2_with (go_at_call 69; refine hP.mono ?_; rintro e w1 ⟨rfl, v1, g1⟩)
    go_ret2
    exact ⟨rfl, HX.out _ _ g1⟩
set_option maxRecDepth 20000 in
set_option maxHeartbeats 400000 in
theorem prest_any (x : PX w pb hb base sb mb tb v p) :
    Calls Tryd.prog 59 #[.pointer (some ⟨pb, 0, none⟩)] w fun e w' => e = .returned (.tuple #[]) ∧ PGo w w' pb hb base (pBl pb sb mb tb v) p.rest := by
  have c2 := x.c2
  have hR := restU_any x.sk
  have HX : Hid (∀ w' v', GoU w w' sb base v v' p.M (p.stk.map (fun n : Nat => (n : Int))) false → PGo w w' pb hb base (pBl pb sb mb tb v) p.rest) := fun w' v' g => (x.stack g).went (g.k.mono (fun k _ e => Or.inr (Or.inl e))) g.m
  clear x
  go_enter Tryd.func59, Tryd.ntmps59
  go_wp2_with (go_at_call 71; refine hR.mono ?_; rintro e w1 ⟨rfl, g1⟩)
  go_end0
  exact ⟨rfl, HX.out _ _ g1⟩
end
end Go.Proofs.YtebcigjnjapcgaaDoor

