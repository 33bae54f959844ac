import Derived.Test.YtdafpfdmnccelaaDoorHpMP
import Derived.Test.YtdafpfdmnccelaaDoorArP
/- A heap in memory. -/
/- within, right; Len, Last, Node, Used; Ref, Val. -/
namespace Go.Proofs.YtdafpfdmnccelaaDoor
open Go.RowKit

/-- The cells of an ID, of IDs; a number. -/
def idV (x : Int × Nat) : List Value := [.int .i64 x.1, .int .u64 (x.2 : Int)]
def idsV (l : List (Int × Nat)) : List Value := l.flatMap idV
def uV (n : Nat) : Value := .int .u64 (n : Int)
theorem idsV_len (l : List (Int × Nat)) : (idsV l).length = l.length * 2 := by
  induction l with
  | nil => rfl
  | cons x l ih => unfold idsV at *; rw [List.flatMap_cons, List.length_append, ih]; simp [idV]; omega
theorem idsV_at : ∀ (l : List (Int × Nat)) (i : Nat) (hi : i < l.length), (idsV l)[i * 2]? = some (.int .i64 l[i].1) ∧ (idsV l)[i * 2 + 1]? = some (.int .u64 (l[i].2 : Int))
  | x :: l, 0, _ => by constructor <;> rfl
  | x :: l, i + 1, hi => by
    have := idsV_at l i (by simpa using hi)
    have e1 : (i + 1) * 2 = i * 2 + 2 := by omega
    constructor
    · rw [e1]; exact this.1
    · rw [e1]; exact this.2
theorem idsV_set : ∀ (l : List (Int × Nat)) (i : Nat) (_ : i < l.length) (x : Int × Nat), ((idsV l).set (i * 2) (.int .i64 x.1)).set (i * 2 + 1) (.int .u64 (x.2 : Int)) = idsV (l.set i x)
  | y :: l, 0, _, x => rfl
  | y :: l, i + 1, hi, x => by
    have := idsV_set l i (by simpa using hi) x
    have e1 : (i + 1) * 2 = i * 2 + 2 := by omega
    rw [e1]
    show idV y ++ (((idsV l).set (i * 2) _).set (i * 2 + 1) _) = _
    rw [this]
    rfl
theorem uV_set (l : List Nat) (i : Nat) (x : Nat) : (l.map uV).set i (.int .u64 (x : Int)) = (l.set i x).map uV := by
  rw [List.map_set]
  rfl

/-- An object and where it lies. -/
structure Pl where
  o : Oc
  pb : Nat
  rb : Nat
  vb : Nat
/-- An object as a value. -/
def Pl.v (p : Pl) : Value := .agg #[.int .u64 (p.o.s : Int), .int .i64 (p.o.c : Int), .slice (some ⟨p.rb, 0, none⟩) p.o.rf.length p.o.rf.length, .slice (some ⟨p.vb, 0, none⟩) p.o.vl.length p.o.vl.length, .int .i64 (p.o.d : Int)]
/-- No object. -/
def zO : Value := .agg #[.int .u64 0, .int .i64 0, .slice none 0 0, .slice none 0 0, .int .i64 0]
theorem zeroO (w : World) : (zeroValue 66).run Tryd.prog w = .ok zO w := by kernel_rfl
def Pl.e (p : Pl) : Nat × Value := (p.o.s, p.v)
def Pl.bl (p : Pl) : List Nat := [p.rb, p.vb]
/-- The blocks of a heap. -/
def hBl (hb ab mb : Nat) (L : List Pl) : List Nat := hb :: ab :: mb :: L.flatMap Pl.bl
def getP (L : List Pl) (s : Nat) : Option Pl := L.find? (fun p => p.o.s == s)
theorem getP_o (L : List Pl) (s : Nat) : getC (L.map (·.o)) s = (getP L s).map (·.o) := by
  unfold getC getP
  rw [List.find?_map]
  rfl
theorem getP_look (L : List Pl) (s : Nat) : lookE (L.map Pl.e) s = (getP L s).map Pl.v := by
  unfold lookE getP
  rw [List.find?_map, Option.map_map]
  rfl
theorem getP_mem {L : List Pl} {s : Nat} {p : Pl} (h : getP L s = some p) : p ∈ L ∧ p.o.s = s := by
  unfold getP at h
  exact ⟨List.mem_of_find?_eq_some h, by simpa using List.find?_some h⟩

/-- A heap at block hb, its arena at ab, its map at mb. -/
structure HX (w : World) (hb ab mb : Nat) (h : HSt) (L : List Pl) : Prop where
  box : Row w hb 119 [.int .i64 (h.node : Int), .int .i64 (h.most : Int), .int .u64 (h.last : Int), .pointer (some ⟨ab, 0, none⟩), .map (some mb)]
  ar : AR w ab h.bs
  mp : MP w mb (L.map Pl.e)
  rows : ∀ p ∈ L, Row w p.rb 51 (idsV p.o.rf) ∧ Row w p.vb 39 (p.o.vl.map uV)
  nd : (hBl hb ab mb L).Nodup
  pos : ∀ k ∈ hBl hb ab mb L, 0 < k
  cs : L.map (·.o) = h.cs
  ok : h.Ok

section
variable {w w' : World} {hb ab mb : Nat} {h : HSt} {L : List Pl} {S : Nat → Prop}
theorem HX.tb (x : HX w hb ab mb h L) : TB w := x.ar.tb
theorem HX.lt (x : HX w hb ab mb h L) : ∀ k ∈ hBl hb ab mb L, k < w.heap.size := by
  intro k hk
  simp only [hBl, List.mem_cons, List.mem_flatMap] at hk
  rcases hk with rfl | rfl | rfl | ⟨p, hp, hk⟩
  · exact x.box.lt
  · exact x.ar.lt
  · exact x.mp.lt
  · simp only [Pl.bl, List.mem_cons, List.not_mem_nil, or_false] at hk
    rcases hk with rfl | rfl
    · exact (x.rows p hp).1.lt
    · exact (x.rows p hp).2.lt
theorem mem_rb {hb ab mb : Nat} {L : List Pl} {p : Pl} (hp : p ∈ L) : p.rb ∈ hBl hb ab mb L := by
  simp only [hBl, List.mem_cons, List.mem_flatMap]
  exact Or.inr (Or.inr (Or.inr ⟨p, hp, by simp [Pl.bl]⟩))
theorem mem_vb {hb ab mb : Nat} {L : List Pl} {p : Pl} (hp : p ∈ L) : p.vb ∈ hBl hb ab mb L := by
  simp only [hBl, List.mem_cons, List.mem_flatMap]
  exact Or.inr (Or.inr (Or.inr ⟨p, hp, by simp [Pl.bl]⟩))
theorem HX.kept (x : HX w hb ab mb h L) (hk : Kept w w' S) (h0 : ¬ S 0) (hs : ∀ k ∈ hBl hb ab mb L, ¬ S k) : HX w' hb ab mb h L :=
  ⟨x.box.kept hk (hs _ (by simp [hBl])), x.ar.kept hk h0 (hs _ (by simp [hBl])), x.mp.kept hk (hs _ (by simp [hBl])),
    fun p hp => ⟨(x.rows p hp).1.kept hk (hs _ (mem_rb hp)), (x.rows p hp).2.kept hk (hs _ (mem_vb hp))⟩, x.nd, x.pos, x.cs, x.ok⟩
theorem HX.below (x : HX w hb ab mb h L) (hB : Below w.heap.size w w') : HX w' hb ab mb h L := x.kept (kept_of_below hB (fun _ => False)) id (fun _ _ => id)
theorem HX.c0 (x : HX w hb ab mb h L) : w.cell? ⟨hb, 0, none⟩ = some (.int .i64 (h.node : Int)) := x.box.cell 0 (by simp)
theorem HX.c1 (x : HX w hb ab mb h L) : w.cell? ⟨hb, 1, none⟩ = some (.int .i64 (h.most : Int)) := x.box.cell 1 (by simp)
theorem HX.c2 (x : HX w hb ab mb h L) : w.cell? ⟨hb, 2, none⟩ = some (.int .u64 (h.last : Int)) := x.box.cell 2 (by simp)
theorem HX.c3 (x : HX w hb ab mb h L) : w.cell? ⟨hb, 3, none⟩ = some (.pointer (some ⟨ab, 0, none⟩)) := x.box.cell 3 (by simp)
theorem HX.c4 (x : HX w hb ab mb h L) : w.cell? ⟨hb, 4, none⟩ = some (.map (some mb)) := x.box.cell 4 (by simp)
theorem HX.f (x : HX w hb ab mb h L) (i : Nat) : w.frozen? ⟨hb, i, none⟩ = false := x.box.frozen i
theorem HX.count (x : HX w hb ab mb h L) : L.length = h.cs.length := by rw [← x.cs, List.length_map]
theorem HX.lookN (x : HX w hb ab mb h L) (s : Nat) (hs : s < 18446744073709551616) (hg : getP L s = none) : (Instr.lookup 117 (.map (some mb)) (.int .u64 (s : Int)) false).run Tryd.prog w = .ok zO w := by
  have := x.mp.look Tryd.underlying117 (zeroO w) s hs
  rw [getP_look, hg] at this
  exact this
theorem HX.lookS (x : HX w hb ab mb h L) (s : Nat) (hs : s < 18446744073709551616) {p : Pl} (hg : getP L s = some p) : (Instr.lookup 117 (.map (some mb)) (.int .u64 (s : Int)) false).run Tryd.prog w = .ok p.v w := by
  have := x.mp.look Tryd.underlying117 (zeroO w) s hs
  rw [getP_look, hg] at this
  exact this
theorem HX.look2N (x : HX w hb ab mb h L) (s : Nat) (hs : s < 18446744073709551616) (hg : getP L s = none) : (Instr.lookup 117 (.map (some mb)) (.int .u64 (s : Int)) true).run Tryd.prog w = .ok (.tuple #[zO, .bool false]) w := by
  have := x.mp.look2 Tryd.underlying117 (zeroO w) s hs
  rw [getP_look, hg] at this
  exact this
theorem HX.look2S (x : HX w hb ab mb h L) (s : Nat) (hs : s < 18446744073709551616) {p : Pl} (hg : getP L s = some p) : (Instr.lookup 117 (.map (some mb)) (.int .u64 (s : Int)) true).run Tryd.prog w = .ok (.tuple #[p.v, .bool true]) w := by
  have := x.mp.look2 Tryd.underlying117 (zeroO w) s hs
  rw [getP_look, hg] at this
  exact this
theorem HX.len (x : HX w hb ab mb h L) (ty : TypeId) : (Builtin.len_ #[117] ty #[.map (some mb)]).run Tryd.prog w = .ok (.int .i64 (h.cs.length : Int)) w := by
  have := x.mp.len Tryd.underlying117 ty
  rw [List.length_map, x.count] at this
  exact this
theorem HX.get (x : HX w hb ab mb h L) (s : Nat) : getC h.cs s = (getP L s).map (·.o) := by rw [← x.cs, getP_o]
theorem HX.fl (x : HX w hb ab mb h L) {p : Pl} (hp : p ∈ L) : p.o.rf.length ≤ 7 ∧ p.o.vl.length ≤ 7 ∧ p.o.c ≤ 10000 ∧ p.o.d ≤ 40 := x.ok.fl p.o (by rw [← x.cs]; exact List.mem_map.2 ⟨p, hp, rfl⟩)
theorem HX.rc (x : HX w hb ab mb h L) {p : Pl} (hp : p ∈ L) (i : Nat) (hi : i < p.o.rf.length) : w.cell? ⟨p.rb, i * 2, none⟩ = some (.int .i64 p.o.rf[i].1) ∧ w.cell? ⟨p.rb, i * 2 + 1, none⟩ = some (.int .u64 (p.o.rf[i].2 : Int)) := by
  have h1 := (x.rows p hp).1
  have h2 := idsV_at p.o.rf i hi
  have hl := idsV_len p.o.rf
  constructor
  · rw [h1.cell (i * 2) (by omega)]
    rw [List.getElem?_eq_getElem (by omega)] at h2
    exact h2.1
  · rw [h1.cell (i * 2 + 1) (by omega)]
    rw [List.getElem?_eq_getElem (by omega), List.getElem?_eq_getElem (by omega)] at h2
    exact h2.2
theorem HX.vc (x : HX w hb ab mb h L) {p : Pl} (hp : p ∈ L) (i : Nat) (hi : i < p.o.vl.length) : w.cell? ⟨p.vb, i, none⟩ = some (.int .u64 (p.o.vl[i] : Int)) := by
  have h1 := (x.rows p hp).2
  rw [h1.cell i (by simpa using hi), List.getElem_map]
  rfl
end

end Go.Proofs.YtdafpfdmnccelaaDoor

namespace Go.Proofs.YtdafpfdmnccelaaDoor
open Go.RowKit

set_option maxRecDepth 20000 in
theorem fieldR (a b c d e : Value) (W : World) : (Instr.field 66 (.agg #[a, b, c, d, e]) 2).run Tryd.prog W = .ok c W := by rfl
set_option maxRecDepth 20000 in
theorem fieldV (a b c d e : Value) (W : World) : (Instr.field 66 (.agg #[a, b, c, d, e]) 3).run Tryd.prog W = .ok d W := by rfl

set_option maxRecDepth 20000 in
set_option maxHeartbeats 400000 in
theorem within_yes (n a b : Int) (h1 : a ≤ n) (h2 : n ≤ b) (w : World) :
    Calls Tryd.prog 51 #[.int .i64 n, .int .i64 a, .int .i64 b] w fun e w' => e = .returned (.bool true) ∧ w = w' := by
  go_enter Tryd.func51, Tryd.ntmps51
  go_wp2
  go_ret
  exact ⟨rfl, rfl⟩
set_option maxRecDepth 20000 in
set_option maxHeartbeats 400000 in
theorem within_no (n a b : Int) (h : n < a ∨ b < n) (w : World) :
    Calls Tryd.prog 51 #[.int .i64 n, .int .i64 a, .int .i64 b] w fun e w' => e = .returned (.bool false) ∧ w = w' := by
  by_cases h1 : n < a
  · go_enter Tryd.func51, Tryd.ntmps51
    go_wp2
    go_ret
    exact ⟨rfl, rfl⟩
  · have h2 : b < n := by omega
    have h3 : a ≤ n := by omega
    have hd : decide (n ≤ b) = false := decide_eq_false (by omega)
    clear h h1
    go_enter Tryd.func51, Tryd.ntmps51
    go_wp2
    go_ret
    exact ⟨rfl, rfl⟩

section
variable {w : World} {hb ab mb : Nat} {h : HSt} {L : List Pl}
set_option maxRecDepth 20000 in
set_option maxHeartbeats 400000 in
theorem hlen_any (x : HX w hb ab mb h L) :
    Calls Tryd.prog 22 #[.pointer (some ⟨hb, 0, none⟩)] w fun e w' => e = .returned (.int .i64 (h.cs.length : Int)) ∧ w = w' := by
  have c4 := x.c4
  have hl := fun ty => x.len ty
  go_enter Tryd.func22, Tryd.ntmps22
  go_wp2_with (simp only [hl])
  go_ret
  exact ⟨rfl, rfl⟩
set_option maxRecDepth 20000 in
set_option maxHeartbeats 400000 in
theorem hlast_any (x : HX w hb ab mb h L) :
    Calls Tryd.prog 25 #[.pointer (some ⟨hb, 0, none⟩)] w fun e w' => e = .returned (.int .u64 (h.last : Int)) ∧ w = w' := by
  have c2 := x.c2
  go_enter Tryd.func25, Tryd.ntmps25
  go_wp2
  go_ret
  exact ⟨rfl, rfl⟩
set_option maxRecDepth 20000 in
set_option maxHeartbeats 400000 in
theorem hnode_any (x : HX w hb ab mb h L) :
    Calls Tryd.prog 40 #[.pointer (some ⟨hb, 0, none⟩)] w fun e w' => e = .returned (.int .i64 (h.node : Int)) ∧ w = w' := by
  have c0 := x.c0
  go_enter Tryd.func40, Tryd.ntmps40
  go_wp2
  go_ret
  exact ⟨rfl, rfl⟩

theorem refR_no {cs : List Oc} {s : Nat} {f : Int} (hn : ∀ o, getC cs s = some o → f < 0 ∨ (o.rf.length : Int) ≤ f) : refR cs s f = ((0, 0), 5) := by
  unfold refR
  cases hg : getC cs s with
  | none => rfl
  | some o => exact if_neg (by have := hn o hg; omega)
theorem refR_ok {cs : List Oc} {s i : Nat} {o : Oc} (hg : getC cs s = some o) (hi : i < o.rf.length) : refR cs s (i : Int) = (o.rf[i], 0) := by
  unfold refR
  rw [hg]
  simp only
  rw [if_pos (by omega), Int.toNat_natCast, List.getD_eq_getElem?_getD, List.getElem?_eq_getElem hi]
  rfl
theorem valR_no {cs : List Oc} {s : Nat} {f : Int} (hn : ∀ o, getC cs s = some o → f < 0 ∨ (o.vl.length : Int) ≤ f) : valR cs s f = (0, 5) := by
  unfold valR
  cases hg : getC cs s with
  | none => rfl
  | some o => exact if_neg (by have := hn o hg; omega)
theorem valR_ok {cs : List Oc} {s i : Nat} {o : Oc} (hg : getC cs s = some o) (hi : i < o.vl.length) : valR cs s (i : Int) = (o.vl[i], 0) := by
  unfold valR
  rw [hg]
  simp only
  rw [if_pos (by omega), Int.toNat_natCast, List.getD_eq_getElem?_getD, List.getElem?_eq_getElem hi]
  rfl

set_option maxRecDepth 20000 in
set_option maxHeartbeats 1000000 in
theorem href_any (x : HX w hb ab mb h L) (s : Nat) (hs : s < 18446744073709551616) (f : Int) :
    Calls Tryd.prog 64 #[.pointer (some ⟨hb, 0, none⟩), .int .u64 (s : Int), .int .i64 f] w fun e w' => e = .returned (.tuple #[.agg #[.int .i64 (refR h.cs s f).1.1, .int .u64 ((refR h.cs s f).1.2 : Int)], .int .i64 ((refR h.cs s f).2 : Int)]) ∧ Below w.heap.size w w' := by
  have hA : Below w.heap.size w (w.alloc (.cells #[.int .i64 0, .int .u64 0] 51)) := (Below.refl _ _).alloc (Nat.le_refl _) _
  have x1 := x.below hA
  have c4 := x1.c4
  have hF := fieldR
  cases hg : getP L s with
  | none =>
    rw [refR_no (fun o ho => by rw [x.get, hg] at ho; cases ho)]
    have hlk := x1.lookN s hs hg
    unfold zO at hlk
    have hwn := fun w => within_no f 0 (-1) (by omega) w
    go_enter Tryd.func64, Tryd.ntmps64
    go_wp2_with (go_at_call 51; refine (hwn _).mono ?_; rintro e _ ⟨rfl, rfl⟩)
    refine bodyPost_ret (v := .tuple #[.agg #[.int .i64 0, .int .u64 0], .int .i64 5]) (by simp [results, Tryd.results64, go_sem, *]) rfl ⟨rfl, ?_⟩
    exact (Below.refl _ _).alloc (Nat.le_refl _) _
  | some p =>
    obtain ⟨hp, _⟩ := getP_mem hg
    have hgc : getC h.cs s = some p.o := by rw [x.get, hg]; rfl
    have hlk := x1.lookS s hs hg
    unfold Pl.v at hlk
    have hfl := (x.fl hp).1
    by_cases hf : f < 0 ∨ (p.o.rf.length : Int) ≤ f
    · rw [refR_no (fun o ho => by rw [hgc] at ho; cases ho; exact hf)]
      have hwn := fun w => within_no f 0 ((p.o.rf.length : Int) - 1) (by omega) w
      clear hf
      generalize p.o.rf.length = n at *
      go_enter Tryd.func64, Tryd.ntmps64
      go_wp2_with (go_at_call 51; refine (hwn _).mono ?_; rintro e _ ⟨rfl, rfl⟩)
      refine bodyPost_ret (v := .tuple #[.agg #[.int .i64 0, .int .u64 0], .int .i64 5]) (by simp [results, Tryd.results64, go_sem, *]) rfl ⟨rfl, ?_⟩
      exact (Below.refl _ _).alloc (Nat.le_refl _) _
    · obtain ⟨i, rfl⟩ : ∃ i : Nat, f = (i : Int) := ⟨f.toNat, by omega⟩
      have hi : i < p.o.rf.length := by omega
      rw [refR_ok hgc hi]
      have hwy := fun w => within_yes (i : Int) 0 ((p.o.rf.length : Int) - 1) (by omega) (by omega) w
      obtain ⟨r0, r1⟩ := x1.rc hp i hi
      have hrl := (x.rows p hp).1.lt
      have hii : (i : Int) < (p.o.rf.length : Int) := by omega
      generalize p.o.rf[i] = y at *
      generalize p.o.rf.length = n at *
      clear hf
      go_enter Tryd.func64, Tryd.ntmps64
      go_wp2_with (go_at_call 51; refine (hwy _).mono ?_; rintro e _ ⟨rfl, rfl⟩)
      refine bodyPost_ret (v := .tuple #[.agg #[.int .i64 y.1, .int .u64 (y.2 : Int)], .int .i64 0]) (by simp [results, Tryd.results64, go_sem, *]) rfl ⟨rfl, ?_⟩
      exact (Below.refl _ _).alloc (Nat.le_refl _) _

end

end Go.Proofs.YtdafpfdmnccelaaDoor
