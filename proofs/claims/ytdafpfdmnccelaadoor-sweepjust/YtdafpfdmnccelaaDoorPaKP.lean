import Derived.Test.YtdafpfdmnccelaaDoorPaMP
import Derived.Shelf.SlSortCmp.NoneTotal
import Derived.Shelf.SlSortCmp.QuietGrown
import Derived.Shelf.SlGeneric
import Derived.Shelf.Lay
import Derived.Ground.SlsfProg
import Derived.Laws.BitsAllLaws
import Derived.OwnWalk
import Derived.Maps.RangeWalk
/- Key, cmp.Compare, the comparison of Outs. -/
/- Outs. -/
/- A heap and its paint, whose blocks lie from B on. -/
/- The law's own example; PaintKnown. -/
namespace Go.Proofs.YtdafpfdmnccelaaDoor
open Go.Shelf Go.RowKit Go.Lib
open Go.Sort hiding Below

/-- An ID as one number. -/
def keyN (a n : Nat) : Nat := a * 72057594037927936 + n
set_option maxRecDepth 20000 in
set_option maxHeartbeats 1000000 in
theorem key_any (a n : Nat) (h1 : a ≤ 64) (h2 : n < 72057594037927936) (w : World) :
    Calls Tryd.prog 46 #[.agg #[.int .i64 (a : Int), .int .u64 (n : Int)]] w fun e w' => e = .returned (.int .u64 (keyN a n : Int)) ∧ w' = w.alloc (.cells #[.int .i64 (a : Int), .int .u64 (n : Int)] 51) := by
  unfold keyN
  have HO : Hid (bits .or .u64 ((a : Int) * 72057594037927936) (n : Int) = ((a * 72057594037927936 + n : Nat) : Int)) := by
    have h3 := u64_or_nat (a * 72057594037927936) n (by omega) (by omega)
    have h4 := Nat.shiftLeft_add_eq_or_of_lt (i := 56) (b := n) (by show n < 2 ^ 56; exact h2) a
    rw [Nat.shiftLeft_eq] at h4
    have h5 : (2 : Nat) ^ 56 = 72057594037927936 := by decide
    rw [h5] at h4
    rw [← h4] at h3
    have h6 : ((a * 72057594037927936 : Nat) : Int) = (a : Int) * 72057594037927936 := by omega
    rw [h6] at h3
    exact h3
  go_enter Tryd.func46, Tryd.ntmps46
  go_wp2
  go_ret
  exact ⟨by rw [HO.out]; rfl, rfl⟩
/-- Which of two is the greater. -/
def cmpN (x y : Nat) : Int := if x < y then -1 else if y < x then 1 else 0
/-- What was met: an ID that names, and its rank. -/
abbrev Og : Type := { o : (Int × Nat) × Nat // namesB o.1 = true }
instance : Inhabited Og := ⟨⟨((1, 1), 0), by decide⟩⟩
def Og.cells (o : Og) : List Value := [.int .i64 o.1.1.1, .int .u64 (o.1.1.2 : Int), .int .i64 (o.1.2 : Int)]
def keyI (x : Int × Nat) : Nat := keyN x.1.toNat x.2
def Og.cf (x y : Og) : Int := cmpN (keyI x.1.1) (keyI y.1.1)
theorem names_lt {x : Int × Nat} (h : namesB x = true) : 1 ≤ x.1 ∧ x.1 ≤ 64 ∧ 1 ≤ x.2 ∧ x.2 ≤ 72057594037927935 := by
  simp only [namesB, Bool.and_eq_true, decide_eq_true_eq] at h
  omega
theorem keyI_inj {x y : Int × Nat} (hx : namesB x = true) (hy : namesB y = true) (h : keyI x = keyI y) : x = y := by
  have h1 := names_lt hx
  have h2 := names_lt hy
  unfold keyI keyN at h
  exact Prod.ext (by omega) (by omega)
theorem cmp_lt (x y : Og) : ltOf Og.cf x y = decide (keyI x.1.1 < keyI y.1.1) := by
  unfold ltOf Og.cf cmpN
  by_cases h1 : keyI x.1.1 < keyI y.1.1
  · simp [h1]
  · by_cases h2 : keyI y.1.1 < keyI x.1.1 <;> simp [h1, h2]
theorem og_swo : SWO (ltOf Og.cf) where
  irrefl x := by rw [cmp_lt]; simp
  trans x y z h1 h2 := by rw [cmp_lt] at *; simp at *; omega
  ntrans x y z h1 h2 := by rw [cmp_lt] at *; simp at *; omega

end Go.Proofs.YtdafpfdmnccelaaDoor

namespace Go.Proofs.YtdafpfdmnccelaaDoor
open Go.Shelf Go.RowKit Go.Lib
open Go.Sort hiding Below
open Go.ChangeMaps (setBlock)

/-- An entry comes out. -/
structure NextTo (es : Array MapEntry) (seen : Array Nat) (w w1 : World) (e : MapEntry) : Prop where
  mem : e ∈ (leftOf es seen).toList
  wd : w1 = w ∨ w1 = w.drew
/-- The step of a range over a map. -/
theorem wpList_nextQ {P : Program} (w : World) {ops : Array Oper} {rest : List Oper} {o : Oper} {a : Act} {Q : Exit → Act → World → Prop} (hg : o.guard = none) (it : Operand) (hop : o.op = Op.next it false) (r bm clock c0 : Nat) (seen : Array Nat) (es : Array MapEntry)
    (hit : a.eval it = .pointer (some ⟨r, 0, none⟩)) (hr : w.heap[r]? = some (.mapIter (some bm) clock seen c0)) (hb : w.heap[bm]? = some (.map es clock)) (hold : ∀ x ∈ es.toList, x.born < clock) (hsc : clock ≤ c0)
    (hDone : (leftOf es seen).size = 0 → wpList P ops Q rest (a.put o.dst (.tuple #[.bool false])) w)
    (hMore : ∀ (e : MapEntry) (w1 : World), NextTo es seen w w1 e → wpList P ops Q rest (a.put o.dst (.tuple #[.bool true, e.key, e.val])) (setBlock w1 r (.mapIter (some bm) clock (seen.push e.born) clock))) :
    wpList P ops Q (o :: rest) a w := by
  refine wpList_plain hg fun K' hK' => ?_
  unfold Oper.wp
  rcases run_next_at (P := P) w o.type r bm clock c0 seen es clock hr hb hold hsc with ⟨h0, hrun⟩ | ⟨e, he, w1, hw1, hrun⟩
  · simp [execOp, hop, hit, hrun, Result.andThen]
    exact hK' _ _ (hDone h0)
  · simp [execOp, hop, hit, hrun, Result.andThen]
    exact hK' _ _ (hMore e w1 ⟨he, hw1⟩)

/-- One of a list ahead of the others. -/
theorem perm_out {α : Type} (f : α → Nat) : ∀ (l : List α), (l.map f).Nodup → ∀ x ∈ l, l.Perm (x :: l.filter (fun y => f y != f x))
  | [], _, _, h => by cases h
  | y :: l, hn, x, hx => by
    rw [List.map_cons, List.nodup_cons] at hn
    rcases List.mem_cons.1 hx with rfl | hx
    · have e : (x :: l).filter (fun z => f z != f x) = l := by
        rw [List.filter_cons, if_neg (by simp)]
        rw [List.filter_eq_self]
        intro z hz
        rw [bne_iff_ne]
        intro e
        exact hn.1 (List.mem_map.2 ⟨z, hz, e⟩)
      rw [e]
    · have hne : f y ≠ f x := fun e => hn.1 (List.mem_map.2 ⟨x, hx, e.symm⟩)
      rw [List.filter_cons, if_pos (by simpa using hne)]
      exact ((perm_out f l hn.2 x hx).cons y).trans (List.Perm.swap _ _ _)

/-- The cells of one that was met. -/
def oV (o : (Int × Nat) × Nat) : List Value := [.int .i64 o.1.1, .int .u64 (o.1.2 : Int), .int .i64 (o.2 : Int)]
def osV (l : List ((Int × Nat) × Nat)) : List Value := l.flatMap oV
theorem osV_app (a b : List ((Int × Nat) × Nat)) : osV (a ++ b) = osV a ++ osV b := by unfold osV; rw [List.flatMap_append]
theorem osV_len (l : List ((Int × Nat) × Nat)) : (osV l).length = l.length * 3 := by
  induction l with
  | nil => rfl
  | cons x l ih => unfold osV at *; rw [List.flatMap_cons, List.length_append, ih]; simp [oV]; omega
theorem osV_at : ∀ (l : List ((Int × Nat) × Nat)) (i : Nat) (hi : i < l.length), (osV l)[i * 3]? = some (.int .i64 l[i].1.1) ∧ (osV l)[i * 3 + 1]? = some (.int .u64 (l[i].1.2 : Int)) ∧ (osV l)[i * 3 + 2]? = some (.int .i64 (l[i].2 : Int))
  | x :: l, 0, _ => ⟨rfl, rfl, rfl⟩
  | x :: l, i + 1, hi => by
    have := osV_at l i (by simpa using hi)
    have e1 : (i + 1) * 3 = i * 3 + 3 := by omega
    rw [e1]
    exact this
theorem sr_out (w : World) (o : Obj) (x : (Int × Nat) × Nat) (T : TypeId) : Sr ((w.alloc o).alloc (.cells #[.int .i64 x.1.1, .int .u64 (x.1.2 : Int), .int .i64 (x.2 : Int)] T)) (.slice (some ⟨w.heap.size + 1, 0, none⟩) 1 1) 3 1 (oV x) := by
  have h := heap_alloc_new (w.alloc o) (.cells #[.int .i64 x.1.1, .int .u64 (x.1.2 : Int), .int .i64 (x.2 : Int)] T)
  have e : (w.alloc o).heap.size = w.heap.size + 1 := by simp
  rw [e] at h
  refine ⟨rfl, Or.inr ⟨⟨w.heap.size + 1, 0, none⟩, 1, rfl, fun j u hu => ?_⟩, fun u hu => by simp only [oV, List.mem_cons, List.not_mem_nil, or_false] at hu; rcases hu with rfl | rfl | rfl <;> rfl⟩
  rw [Addr.add_at, Nat.zero_add, cell_of_row _ _ _ _ _ _ h]
  simpa [oV] using hu
theorem Tryd.infoOut : (Tryd.prog.info? 104).map (fun i => (i.zero, i.size, i.bytes)) = some (some (.agg #[.int .i64 0, .int .u64 0, .int .i64 0]), 3, 24) := by kernel_rfl

/-- What Outs answers: a list in new memory. -/
structure OL (w : World) (base : Nat) (v : Value) (L : List ((Int × Nat) × Nat)) : Prop where
  ex : ∃ ao cap, v = .slice ao L.length cap ∧ (0 < L.length → ∃ g, ao = some ⟨g, 0, none⟩ ∧ base ≤ g ∧ g < w.heap.size ∧ ∀ j u, (osV L)[j]? = some u → w.cell? ⟨g, j, none⟩ = some u)
theorem OL.below {w w' : World} {base : Nat} {v : Value} {L : List ((Int × Nat) × Nat)} (h : OL w base v L) (hb : Below w.heap.size w w') : OL w' base v L := by
  obtain ⟨ao, cap, h1, h2⟩ := h.ex
  refine ⟨ao, cap, h1, fun hl => ?_⟩
  obtain ⟨g, e, hb1, hg, hc⟩ := h2 hl
  exact ⟨g, e, hb1, Nat.lt_of_lt_of_le hg hb.size, fun j u hu => (hb.cell (p := ⟨g, j, none⟩) hg).trans (hc j u hu)⟩
/-- Rising, and all of l. -/
def OutsOf (l L : List ((Int × Nat) × Nat)) : Prop := L.Perm l ∧ L.Pairwise (fun a b => keyI a.1 < keyI b.1)
theorem outsOf_uniq {l L M : List ((Int × Nat) × Nat)} (h1 : OutsOf l L) (h2 : OutsOf l M) : L = M := by
  have hp : L.Perm M := h1.1.trans h2.1.symm
  have a := h1.2
  have b := h2.2
  clear h1 h2
  induction L generalizing M with
  | nil => exact (List.Perm.nil_eq hp)
  | cons x L ih =>
    cases M with
    | nil => exact absurd hp.length_eq (by simp)
    | cons y M =>
      rw [List.pairwise_cons] at a b
      have e : x = y := by
        have hx : x ∈ y :: M := hp.mem_iff.1 (List.mem_cons_self)
        have hy : y ∈ x :: L := hp.mem_iff.2 (List.mem_cons_self)
        rcases List.mem_cons.1 hx with e | hx
        · exact e
        · rcases List.mem_cons.1 hy with e | hy
          · exact e.symm
          · have := a.1 y hy
            have := b.1 x hx
            omega
      subst e
      rw [ih (List.Perm.cons_inv hp) a.2 b.2]

/-- Below what is new nothing changed. -/
theorem below_sorted (w : World) (B g : Nat) (hg : B ≤ g) (hB : B ≤ w.heap.size) (n : Nat) (d : Array Og) (os : Array Obj) : Below B w (sortWorldK Og.cells 3 w g 0 n d os) := by
  refine ⟨rfl, rfl, rfl, ?_, fun i hi => ?_⟩
  · simp [sortWorldK, grow, putRowK, putRow, mapBlock]
  · simp only [sortWorldK, grow, putRowK, putRow, mapBlock]
    rw [Array.getElem?_append_left (by simp; omega)]
    rw [Array.getElem?_modify]
    rw [if_neg (by omega)]
    rfl
def ofOg (d : Array Og) : List ((Int × Nat) × Nat) := d.toList.map (·.1)
/-- The list of those that name, as such. -/
def toOg (l : List ((Int × Nat) × Nat)) (h : ∀ o ∈ l, namesB o.1 = true) : Array Og := (l.attach.map (fun o => (⟨o.1, h o.1 o.2⟩ : Og))).toArray
theorem ofOg_toOg (l : List ((Int × Nat) × Nat)) (h : ∀ o ∈ l, namesB o.1 = true) : ofOg (toOg l h) = l := by
  unfold ofOg toOg
  show (l.attach.map (fun o => (⟨o.1, h o.1 o.2⟩ : Og))).map (·.1) = l
  rw [List.map_map]
  exact List.attach_map_subtype_val l
theorem ofOg_get (d : Array Og) (i : Nat) (h : i < (ofOg d).length) (h' : i < d.size) : (ofOg d)[i] = (d[i]).1 := by simp [ofOg]
theorem ownc_lt {w : World} {base c n : Nat} {E : TypeId} {v : Value} {l : List Value} (h : w.ownsRow base E c v n l) : ∀ k, v.ownBlock = some k → base ≤ k ∧ k < w.heap.size := by
  intro k hk
  rcases h.2 with ⟨rfl, _⟩ | ⟨g, cap, cur, rfl, h2, h3, _⟩
  · cases hk
  · have e : g = k := by simpa [Value.ownBlock] using hk
    subst e
    exact ⟨h2, (Array.getElem?_eq_some_iff.1 h3).1⟩
theorem ownc_form {w : World} {base c n : Nat} {E : TypeId} {v : Value} {l : List Value} (h : w.ownsRow base E c v n l) : ∃ ao cap, v = .slice ao n cap := by
  rcases h.2 with ⟨rfl, h0⟩ | ⟨g, cap, cur, rfl, _⟩
  · exact ⟨none, 0, by rw [h0]⟩
  · exact ⟨_, cap, rfl⟩
theorem og_at (d : Array Og) (j : Nat) (hj : j < d.size * 3) : (osV (ofOg d))[j]? = some ((Og.cells d[j / 3]!)[j % 3]!) := by
  have hi : j / 3 < d.size := by omega
  have hl : j / 3 < (ofOg d).length := by unfold ofOg; simpa using hi
  have h := osV_at (ofOg d) (j / 3) hl
  have e : (ofOg d)[j / 3] = (d[j / 3]!).1 := by
    rw [getElem!_pos d (j / 3) hi]
    exact ofOg_get d _ hl hi
  rw [e] at h
  generalize d[j / 3]! = o at *
  have h3 : j % 3 = 0 ∨ j % 3 = 1 ∨ j % 3 = 2 := by omega
  rcases h3 with h3 | h3 | h3
  · have ej : j = j / 3 * 3 := by omega
    rw [h3]
    rw [← ej] at h
    exact h.1
  · have ej : j = j / 3 * 3 + 1 := by omega
    rw [h3]
    rw [← ej] at h
    exact h.2.1
  · have ej : j = j / 3 * 3 + 2 := by omega
    rw [h3]
    rw [← ej] at h
    exact h.2.2
theorem holds_og {w : World} {base : Nat} {v : Value} (d : Array Og) (ho : w.ownsRow base 104 3 v (ofOg d).length (osV (ofOg d))) (h0 : 0 < d.size) : ∃ g cap, v = .slice (some ⟨g, 0, none⟩) d.size cap ∧ base ≤ g ∧ g < w.heap.size ∧ HoldsK Og.cells 3 w g 0 d := by
  have hl : (ofOg d).length = d.size := by unfold ofOg; simp
  rcases ho.2 with ⟨_, hn⟩ | ⟨g, cap, cur, hv, hb, hg, hn, hm, hs, ht⟩
  · omega
  · rw [hl] at hv
    refine ⟨g, cap, hv, hb, (Array.getElem?_eq_some_iff.1 hg).1, fun j hj => ?_⟩
    rw [size_flatK] at hj
    rw [get_flatK _ _ _ _ hj, Nat.zero_add]
    have h1 := og_at d j hj
    rw [← ht, List.getElem?_take_of_lt (by rw [hl]; exact hj)] at h1
    refine ⟨?_, frozen_of_row w g j _ _ hg⟩
    rw [cell_of_row w g j _ _ _ hg]
    simpa using h1
/-- Behind the sort. -/
theorem sorted_ol {w w1 : World} {base g cap : Nat} (d d' : Array Og) (hd : ((ofOg d).map (·.1)).Nodup) (hp : PermIn 0 d.size d d') (hs : SortedIn (ltOf Og.cf) 0 d.size d') (hH : HoldsK Og.cells 3 w g 0 d) (hg : g < w.heap.size) (hb : base ≤ g) (n : Nat) (os : Array Obj) (hw : w1 = sortWorldK Og.cells 3 w g 0 n d' os) :
    OutsOf (ofOg d) (ofOg d') ∧ OL w1 base (.slice (some ⟨g, 0, none⟩) d.size cap) (ofOg d') := by
  have hsz : d'.size = d.size := hp.1
  have hperm : (ofOg d').Perm (ofOg d) := by
    have h := hp.2.2
    have e1 : d'.extract 0 d.size = d' := by rw [← hsz]; simp
    have e2 : d.extract 0 d.size = d := by simp
    rw [e1, e2] at h
    exact h.map _
  have hnd : ((ofOg d').map (·.1)).Nodup := (hperm.map _).nodup_iff.2 hd
  refine ⟨⟨hperm, ?_⟩, ?_⟩
  · rw [List.pairwise_iff_getElem]
    intro i j hi hj hij
    have hi' : i < d'.size := by unfold ofOg at hi; simpa using hi
    have hj' : j < d'.size := by unfold ofOg at hj; simpa using hj
    have h1 := hs i j (Nat.zero_le _) hij (by omega)
    rw [cmp_lt, getElem!_pos d' j hj', getElem!_pos d' i hi'] at h1
    have ei : (ofOg d')[i] = (d'[i]).1 := ofOg_get d' i hi hi'
    have ej : (ofOg d')[j] = (d'[j]).1 := ofOg_get d' j hj hj'
    rw [ei, ej]
    have h2 : ¬ keyI (d'[j]).1.1 < keyI (d'[i]).1.1 := by simpa using h1
    have h3 : keyI (d'[i]).1.1 ≠ keyI (d'[j]).1.1 := fun e => by
      have e2 := keyI_inj (d'[i]).2 (d'[j]).2 e
      have e3 : ((ofOg d').map (·.1))[i]'(by simpa using hi) = ((ofOg d').map (·.1))[j]'(by simpa using hj) := by
        rw [List.getElem_map, List.getElem_map, ei, ej]
        exact e2
      have := (List.getElem_inj hnd).1 e3
      omega
    omega
  · have hH' : HoldsK Og.cells 3 w1 g 0 d' := by rw [hw]; exact holdsK_sortWorldK_c Og.cells 3 w g 0 d d' n os hH hg hsz
    have hl : (ofOg d').length = d.size := by unfold ofOg; simp [hsz]
    refine ⟨some ⟨g, 0, none⟩, cap, by rw [hl], fun _ => ⟨g, rfl, hb, ?_, fun j u hu => ?_⟩⟩
    · have := (below_sorted w w.heap.size w.heap.size (Nat.le_refl _) (Nat.le_refl _) n d' os).size
      rw [hw]
      have e : (sortWorldK Og.cells 3 w g 0 n d' os).heap.size = (sortWorldK Og.cells 3 w w.heap.size 0 n d' os).heap.size := by simp [sortWorldK, grow, putRowK, putRow, mapBlock]
      omega
    · have hj : j < d'.size * 3 := by
        have := (List.getElem?_eq_some_iff.1 hu).1
        rw [osV_len, hl] at this
        omega
      have h1 := hH' j (by rw [size_flatK]; exact hj)
      rw [get_flatK _ _ _ _ hj, Nat.zero_add] at h1
      rw [og_at d' j hj] at hu
      rw [← hu]
      exact h1.1

/-- The rank of an entry. -/
def gE (e : (Int × Nat) × Value) : (Int × Nat) × Nat := (e.1, match e.2 with | .int _ r => r.toNat | _ => 0)
theorem gE_tE (e : (Int × Nat) × Nat) : gE (tE e) = e := by
  obtain ⟨x, r⟩ := e
  simp [gE, tE, tV]
/-- Those that are still to come. -/
def toCome (l : List (En (Int × Nat))) (seen : Array Nat) : List (En (Int × Nat)) := l.filter (fun t => !seen.contains t.b)
theorem come_push (l : List (En (Int × Nat))) (seen : Array Nat) (x : Nat) : toCome l (seen.push x) = (toCome l seen).filter (fun t => t.b != x) := by
  unfold toCome
  rw [List.filter_filter]
  congr 1
  funext t
  rw [Array.contains_push]
  cases h1 : seen.contains t.b <;> cases h2 : (t.b == x) <;> simp_all [bne]
theorem come_left (l : List (En (Int × Nat))) (seen : Array Nat) : (leftOf (l.map (En.e eI)).toArray seen).toList = (toCome l seen).map (En.e eI) := by
  unfold leftOf toCome
  rw [Array.toList_filter, List.filter_map]
  rfl
theorem come_size (l : List (En (Int × Nat))) (seen : Array Nat) : (leftOf (l.map (En.e eI)).toArray seen).size = (toCome l seen).length := by
  rw [← Array.length_toList, come_left, List.length_map]
theorem come_nil (l : List (En (Int × Nat))) : toCome l #[] = l := by
  unfold toCome
  rw [List.filter_eq_self]
  simp
theorem range_left {w : World} {b r clock c0 : Nat} {l : List (En (Int × Nat))} {seen : Array Nat} (hb : w.heap[b]? = some (.map (l.map (En.e eI)).toArray clock)) (hr : w.heap[r]? = some (.mapIter (some b) clock seen c0)) : w.rangeLeft b r = (toCome l seen).length := by
  simp only [World.rangeLeft, hb, hr]
  exact come_size l seen
/-- One more has come. -/
theorem come_step {l : List (En (Int × Nat))} (hn : (l.map En.b).Nodup) {seen : Array Nat} {t : En (Int × Nat)} (ht : t ∈ toCome l seen) {done : List ((Int × Nat) × Nat)} {m : (Int × Nat) × Nat} (hm : En.kv t = tE m) (h : (done.map tE ++ (toCome l seen).map En.kv).Perm (l.map En.kv)) :
    ((done ++ [m]).map tE ++ (toCome l (seen.push t.b)).map En.kv).Perm (l.map En.kv) ∧ (toCome l (seen.push t.b)).length < (toCome l seen).length := by
  have hn' : ((toCome l seen).map En.b).Nodup := hn.sublist (List.filter_sublist.map _)
  have hp := perm_out En.b (toCome l seen) hn' t ht
  rw [come_push]
  have hl := hp.length_eq
  rw [List.length_cons] at hl
  refine ⟨?_, by omega⟩
  refine List.Perm.trans ?_ h
  rw [List.map_append, List.map_cons, List.map_nil, List.append_assoc]
  refine List.Perm.append_left _ ?_
  have := (hp.map En.kv).symm
  rw [List.map_cons, hm] at this
  exact this
theorem come_end {l : List (En (Int × Nat))} {seen : Array Nat} {done me : List ((Int × Nat) × Nat)} (hk : l.map En.kv = me.map tE) (h0 : (toCome l seen).length = 0) (h : (done.map tE ++ (toCome l seen).map En.kv).Perm (l.map En.kv)) : done.Perm me := by
  have e : toCome l seen = [] := List.eq_nil_of_length_eq_zero h0
  rw [e, List.map_nil, List.append_nil, hk] at h
  have h2 := h.map gE
  rw [List.map_map, List.map_map] at h2
  have e2 : ∀ l : List ((Int × Nat) × Nat), l.map (gE ∘ tE) = l := fun l => by
    have : (gE ∘ tE) = id := funext gE_tE
    rw [this, List.map_id]
  rw [e2, e2] at h2
  exact h2
section
variable {w : World} {pb hb base sb mb tb : Nat} {v : Value} {p : PSt}
end

end Go.Proofs.YtdafpfdmnccelaaDoor

namespace Go.Proofs.YtdafpfdmnccelaaDoor
open Go.RowKit

section
variable {w w' : World} {pb hb base sb mb tb : Nat} {v v' : Value} {p p' : PSt} {F G : Nat → Prop} {h : HSt}
end

/-- A heap and its paint; none of their blocks is one of X's; below B all is as it was in w0. -/
structure PH (w0 : World) (B : Nat) (w : World) (pb hb : Nat) (h : HSt) (p : PSt) (X : Nat → Prop) : Prop where
  ex : ∃ F G, HP w hb F h ∧ PN w pb hb B G p ∧ (∀ k, F k → B ≤ k ∧ ¬ X k ∧ ¬ G k) ∧ (∀ k, G k → ¬ X k)
  bel : Below B w0 w
  le : B ≤ w.heap.size
  xs : ∀ k, X k → k < w.heap.size
  pos : 0 < B
section
variable {w0 w w' : World} {B pb hb : Nat} {h h' : HSt} {p p' : PSt} {X : Nat → Prop}
theorem PH.ok (x : PH w0 B w pb hb h p X) : h.Ok := by
  obtain ⟨F, G, hp, _⟩ := x.ex
  exact hp.ok
theorem PH.pgo (x : PH w0 B w pb hb h p X) {P : Program} {n : Nat} {args : Array Value} {r : Ending} (f : ∀ sb mb tb v F, PX w pb hb B sb mb tb v p → HP w hb F h → (∀ k, F k → ¬ pBl pb sb mb tb v k) → Calls P n args w fun e w' => e = r ∧ PGo w w' pb hb B (pBl pb sb mb tb v) p') : Calls P n args w fun e w' => e = r ∧ PH w0 B w' pb hb h p' X ∧ Kept w w' (Its B X) := by
  obtain ⟨F, G, hp, ⟨sb, mb, tb, v, hx, hGi⟩, hF, hG⟩ := x.ex
  refine (f sb mb tb v F hx hp (fun k a b => (hF k a).2.2 ((hGi k).2 b))).mono ?_
  rintro e w' ⟨he, hg⟩
  have hg := PX.fit hGi hg
  obtain ⟨G', hp', hG'⟩ := hg.ex
  have hlt := hp.lt
  have hle := x.le
  have hX := x.xs
  have hpos := x.pos
  have hGe : ∀ k, G k → B ≤ k := fun k hk => hx.gek k ((hGi k).1 hk)
  refine ⟨he, ⟨⟨F, G', hp.kept hg.kept (fun e => by have := hGe 0 e; omega) (fun k a b => (hF k a).2.2 b), hp', fun k hk => ⟨(hF k hk).1, (hF k hk).2.1, fun e => ?_⟩, fun k hk e => ?_⟩, x.bel.trans (hg.kept.below x.le (fun i hi e => by have := hGe i e; omega)), Nat.le_trans x.le hg.kept.size, fun k e => Nat.lt_of_lt_of_le (x.xs k e) hg.kept.size, x.pos⟩, hg.kept.mono (fun k _ e => ⟨hGe k e, hG k e⟩)⟩
  · rcases hG' k e with a | a
    · exact (hF k hk).2.2 a
    · have := hlt k hk
      omega
  · rcases hG' k hk with a | a
    · exact hG k a e
    · have := hX k e
      omega
theorem PH.read (x : PH w0 B w pb hb h p X) (hB : Below w.heap.size w w') : PH w0 B w' pb hb h p X := by
  obtain ⟨F, G, hp, hn, hF, hG⟩ := x.ex
  exact ⟨⟨F, G, hp.below hB, hn.below hB, hF, hG⟩, x.bel.trans (hB.mono x.le), Nat.le_trans x.le hB.size, fun k e => Nat.lt_of_lt_of_le (x.xs k e) hB.size, x.pos⟩
theorem PH.box (x : PH w0 B w pb hb h p X) (o : Obj) : PH w0 B (w.alloc o) pb hb h p (fun k => X k ∨ k = w.heap.size) := by
  obtain ⟨F, G, hp, hn, hF, hG⟩ := x.ex
  have hlt := hp.lt
  have hlg := hn.lt
  have hB : Below w.heap.size w (w.alloc o) := bel_alloc w o
  refine ⟨⟨F, G, hp.below hB, hn.below hB, fun k hk => ⟨(hF k hk).1, fun e => ?_, (hF k hk).2.2⟩, fun k hk e => ?_⟩, x.bel.trans (hB.mono x.le), Nat.le_trans x.le hB.size, fun k e => ?_, x.pos⟩
  · rcases e with e | e
    · exact (hF k hk).2.1 e
    · have := hlt k hk
      omega
  · rcases e with e | e
    · exact hG k hk e
    · have := hlg k hk
      omega
  · rcases e with e | e
    · exact Nat.lt_of_lt_of_le (x.xs k e) hB.size
    · simp [e]
theorem PH.other (x : PH w0 B w pb hb h p X) {S : Nat → Prop} (hk : Kept w w' S) (hS : ∀ k, S k → X k ∧ B ≤ k) : PH w0 B w' pb hb h p X := by
  obtain ⟨F, G, hp, hn, hF, hG⟩ := x.ex
  have hpos := x.pos
  exact ⟨⟨F, G, hp.kept hk (fun e => by have := (hS 0 e).2; omega) (fun k a b => (hF k a).2.1 (hS k b).1), hn.kept hk (fun k a b => hG k a (hS k b).1), hF, hG⟩, x.bel.trans (hk.below x.le (fun i hi e => by have := (hS i e).2; omega)), Nat.le_trans x.le hk.size, fun k e => Nat.lt_of_lt_of_le (x.xs k e) hk.size, x.pos⟩
theorem PH.off (x : PH w0 B w pb hb h p X) (Y : Nat → Prop) (hY : ∀ k, Y k → X k) : PH w0 B w pb hb h p Y := by
  obtain ⟨F, G, hp, hn, hF, hG⟩ := x.ex
  exact ⟨⟨F, G, hp, hn, fun k hk => ⟨(hF k hk).1, fun e => (hF k hk).2.1 (hY k e), (hF k hk).2.2⟩, fun k hk e => hG k hk (hY k e)⟩, x.bel, x.le, fun k e => x.xs k (hY k e), x.pos⟩
theorem PH.shade (x : PH w0 B w pb hb h p X) (a : Int) (n : Nat) (r : Int) :
    Calls Tryd.prog 13 #[.pointer (some ⟨pb, 0, none⟩), .agg #[.int .i64 a, .int .u64 (n : Int)], .int .i64 r] w fun e w' => e = .returned (.tuple #[]) ∧ PH w0 B w' pb hb h (p.shade h (a, n) r) X ∧ Kept w w' (Its B X) := x.pgo (fun _ _ _ _ _ hx hp _ => shade_any hx hp a n r)
theorem PH.mark (x : PH w0 B w pb hb h p X) (s : Nat) (hs : s < 18446744073709551616) :
    Calls Tryd.prog 37 #[.pointer (some ⟨pb, 0, none⟩), .int .u64 (s : Int)] w fun e w' => e = .returned (.tuple #[.int .i64 ((markR h p s).1 : Int), .bool (markR h p s).2.1, .bool (markR h p s).2.2]) ∧ Below w.heap.size w w' := by
  obtain ⟨F, G, hp, ⟨sb, mb, tb, v, hx, _⟩, _⟩ := x.ex
  exact mark_any hx hp s hs
theorem HH.paint (x : HH w0 B w hb h X) (hB : 0 < B) (M : Nat) (h1 : 1 ≤ M) (h2 : M ≤ 64) :
    Calls Tryd.prog 8 #[.pointer (some ⟨hb, 0, none⟩), .int .i64 (M : Int)] w fun e w' => ∃ pb, e = .returned (.tuple #[.pointer (some ⟨pb, 0, none⟩), .int .i64 0]) ∧ PH w0 B w' pb hb h (PSt.new M) X ∧ Below w.heap.size w w' := by
  refine (pnew_ok hb B M h1 h2 w x.le).mono ?_
  rintro e w' ⟨pb, G, he, hn, hG, hb'⟩
  obtain ⟨F, hp, hF⟩ := x.ex
  have hlt := hp.lt
  exact ⟨pb, he, ⟨⟨F, G, hp.below hb', hn, fun k hk => ⟨(hF k hk).1, (hF k hk).2, fun e => by have := hG k e; have := hlt k hk; omega⟩, fun k hk e => by have := hG k hk; have := x.xs k e; omega⟩, x.bel.trans (hb'.mono x.le), Nat.le_trans x.le hb'.size, fun k e => Nat.lt_of_lt_of_le (x.xs k e) hb'.size, hB⟩, hb'⟩
end

end Go.Proofs.YtdafpfdmnccelaaDoor

namespace Go.Proofs.YtdafpfdmnccelaaDoor
open Go.RowKit

/-- The example's heaps and paints. -/
def hk0 : HSt := ⟨1, 4, 0, List.replicate 4 bk0, []⟩
def hk1 : HSt := hk0.makeS 1 0
def hk2 : HSt := hk1.makeS 1 0
def hk3 : HSt := hk2.setRefS 1 0 (1, 2)
def hk4 : HSt := hk3.setRefS 2 0 (2, 7)
def pk1 : PSt := (PSt.new 4).turn
def pk2 : PSt := pk1.shade hk4 (1, 1) 3
def pk3 : PSt := pk2.scan hk4 1
theorem kk1 : hk0.makeR 1 0 = (1, 0) := by kernel_rfl
theorem kk2 : hk1.makeR 1 0 = (2, 0) := by kernel_rfl
theorem kk3 : hk2.setRefR 1 0 (1, 2) = ((0, 0), 0) := by kernel_rfl
theorem kk4 : hk3.setRefR 2 0 (2, 7) = ((0, 0), 0) := by kernel_rfl
theorem kk5 : markR hk4 pk2 1 = (3, true, true) := by kernel_rfl
theorem kk6 : scanR hk4 pk2 1 = true := by kernel_rfl
theorem kk7 : markR hk4 pk3 2 = (3, true, true) := by kernel_rfl
theorem kk8 : pk3.stk.length = 2 := by kernel_rfl

theorem TB.pos {w : World} (h : TB w) : 0 < w.heap.size := h.size

def hq2 : HSt := hk1.setRefS 1 0 (2, 7)
def pq1 : PSt := (PSt.new 1).shade hq2 (1, 1) 99
def pq2 : PSt := pq1.scan hq2 1
def pq3 : PSt := pq2.shade hq2 (1, 9) 0
theorem qq1 : hk1.setRefR 1 0 (2, 7) = ((0, 0), 0) := by kernel_rfl
theorem qq2 : markR hq2 pq1 1 = (40, true, true) := by kernel_rfl
theorem qq3 : scanR hq2 pq1 1 = true := by kernel_rfl
theorem qq4 : metR pq2 (2, 7) = (40, true) := by kernel_rfl
theorem qq5 : markR hq2 pq3 9 = (0, false, false) := by kernel_rfl
theorem qq6 : pq3.me = [((2, 7), 40)] := by kernel_rfl
theorem qq7 : pq3.turns = 0 := by kernel_rfl
end Go.Proofs.YtdafpfdmnccelaaDoor
