import Derived.Test.YtdafpfdmnccelaaDoorHpJP
/- A heap that is all that is new; the law's own example. -/
/- clone, Object. -/
namespace Go.Proofs.YtdafpfdmnccelaaDoor
open Go.RowKit

section
variable {w : World} {hb : Nat} {h : HSt} {F : Nat → Prop}
theorem HP.make (x : HP w hb F h) (r v : Int) :
    Calls Tryd.prog 17 #[.pointer (some ⟨hb, 0, none⟩), .int .i64 r, .int .i64 v] w fun e w' => e = .returned (.tuple #[.int .u64 ((h.makeR r v).1 : Int), .int .i64 ((h.makeR r v).2 : Int)]) ∧ Goes w w' hb F (h.makeS r v) := by
  obtain ⟨ab, mb, L, hx, hF⟩ := x.ex
  exact (hmake_any hx r v).mono (fun _ _ ⟨h1, h2⟩ => ⟨h1, HX.fit hF h2⟩)
theorem HP.ref (x : HP w hb F h) (s : Nat) (hs : s < 18446744073709551616) (f : Int) :
    Calls Tryd.prog 64 #[.pointer (some ⟨hb, 0, none⟩), .int .u64 (s : Int), .int .i64 f] w fun e w' => e = .returned (.tuple #[.agg #[.int .i64 (refR h.cs s f).1.1, .int .u64 ((refR h.cs s f).1.2 : Int)], .int .i64 ((refR h.cs s f).2 : Int)]) ∧ Goes w w' hb F h := by
  obtain ⟨ab, mb, L, hx, hF⟩ := x.ex
  exact (href_any hx s hs f).mono (fun _ _ ⟨h1, h2⟩ => ⟨h1, x.stay h2⟩)
theorem HP.setRef (x : HP w hb F h) (s : Nat) (hs : s < 18446744073709551616) (f : Int) (a : Int) (n : Nat) :
    Calls Tryd.prog 30 #[.pointer (some ⟨hb, 0, none⟩), .int .u64 (s : Int), .int .i64 f, .agg #[.int .i64 a, .int .u64 (n : Int)]] w fun e w' => e = .returned (.tuple #[.agg #[.int .i64 (h.setRefR s f (a, n)).1.1, .int .u64 ((h.setRefR s f (a, n)).1.2 : Int)], .int .i64 ((h.setRefR s f (a, n)).2 : Int)]) ∧ Goes w w' hb F (h.setRefS s f (a, n)) := by
  obtain ⟨ab, mb, L, hx, hF⟩ := x.ex
  exact (hsetref_any hx s hs f a n).mono (fun _ _ ⟨h1, h2⟩ => ⟨h1, HX.fit hF h2⟩)
theorem HP.free (x : HP w hb F h) (s : Nat) (hs : s < 18446744073709551616) :
    Calls Tryd.prog 19 #[.pointer (some ⟨hb, 0, none⟩), .int .u64 (s : Int)] w fun e w' => e = .returned (.int .i64 (h.freeR s : Int)) ∧ Goes w w' hb F (h.freeS s) := by
  obtain ⟨ab, mb, L, hx, hF⟩ := x.ex
  exact (hfree_any hx s hs).mono (fun _ _ ⟨h1, h2⟩ => ⟨h1, HX.fit hF h2⟩)
theorem HP.last (x : HP w hb F h) :
    Calls Tryd.prog 25 #[.pointer (some ⟨hb, 0, none⟩)] w fun e w' => e = .returned (.int .u64 (h.last : Int)) ∧ w = w' := by
  obtain ⟨ab, mb, L, hx, hF⟩ := x.ex
  exact hlast_any hx
theorem HP.len (x : HP w hb F h) :
    Calls Tryd.prog 22 #[.pointer (some ⟨hb, 0, none⟩)] w fun e w' => e = .returned (.int .i64 (h.cs.length : Int)) ∧ w = w' := by
  obtain ⟨ab, mb, L, hx, hF⟩ := x.ex
  exact hlen_any hx
theorem HP.node (x : HP w hb F h) :
    Calls Tryd.prog 40 #[.pointer (some ⟨hb, 0, none⟩)] w fun e w' => e = .returned (.int .i64 (h.node : Int)) ∧ w = w' := by
  obtain ⟨ab, mb, L, hx, hF⟩ := x.ex
  exact hnode_any hx
theorem HP.setIn (x : HP w hb F h) (s : Nat) (hs : s < 18446744073709551616) (d : Int) :
    Calls Tryd.prog 32 #[.pointer (some ⟨hb, 0, none⟩), .int .u64 (s : Int), .int .i64 d] w fun e w' => e = .returned (.int .i64 (h.setInR s d : Int)) ∧ Goes w w' hb F (h.setInS s d) := by
  obtain ⟨ab, mb, L, hx, hF⟩ := x.ex
  exact (hsetin_any hx s hs d).mono (fun _ _ ⟨h1, h2⟩ => ⟨h1, HX.fit hF h2⟩)
end

/-- A heap whose blocks lie from B on, and are none of X's; below B all is as it was in w0. -/
structure HH (w0 : World) (B : Nat) (w : World) (hb : Nat) (h : HSt) (X : Nat → Prop) : Prop where
  ex : ∃ F, HP w hb F h ∧ ∀ k, F k → B ≤ k ∧ ¬ X k
  bel : Below B w0 w
  le : B ≤ w.heap.size
  xs : ∀ k, X k → k < w.heap.size
/-- What a call on such a heap may write. -/
def Its (B : Nat) (X : Nat → Prop) (k : Nat) : Prop := B ≤ k ∧ ¬ X k
section
variable {w0 w w' : World} {B hb : Nat} {h h' : HSt} {F X : Nat → Prop}
theorem HH.tb (x : HH w0 B w hb h X) : TB w := by
  obtain ⟨F, hp, _⟩ := x.ex
  exact hp.tb
theorem HH.ok (x : HH w0 B w hb h X) : h.Ok := by
  obtain ⟨F, hp, _⟩ := x.ex
  exact hp.ok
theorem HH.goes (hF : ∀ k, F k → B ≤ k ∧ ¬ X k) (hb0 : Below B w0 w) (hle : B ≤ w.heap.size) (hX : ∀ k, X k → k < w.heap.size) (hg : Goes w w' hb F h') : HH w0 B w' hb h' X ∧ Kept w w' (Its B X) := by
  obtain ⟨F', hp', hF'⟩ := hg.ex
  have hk : Kept w w' (Its B X) := hg.kept.mono (fun k _ e => hF k e)
  refine ⟨⟨⟨F', hp', fun k hk => ?_⟩, hb0.trans (hg.kept.below hle (fun i hi e => ?_)), Nat.le_trans hle hg.kept.size, fun k e => Nat.lt_of_lt_of_le (hX k e) hg.kept.size⟩, hk⟩
  · rcases hF' k hk with h1 | h1
    · exact hF k h1
    · exact ⟨by omega, fun e => by have := hX k e; omega⟩
  · have := (hF i e).1
    omega
theorem HH.use (x : HH w0 B w hb h X) {P : Program} {n : Nat} {args : Array Value} {r : Ending} (f : ∀ F, HP w hb F h → Calls P n args w fun e w' => e = r ∧ Goes w w' hb F h') : Calls P n args w fun e w' => e = r ∧ HH w0 B w' hb h' X ∧ Kept w w' (Its B X) := by
  obtain ⟨F, hp, hF⟩ := x.ex
  exact (f F hp).mono (fun _ _ ⟨h1, h2⟩ => ⟨h1, HH.goes hF x.bel x.le x.xs h2⟩)
theorem HH.read (x : HH w0 B w hb h X) (hB : Below w.heap.size w w') : HH w0 B w' hb h X := by
  obtain ⟨F, hp, hF⟩ := x.ex
  exact ⟨⟨F, hp.below hB, hF⟩, x.bel.trans (hB.mono x.le), Nat.le_trans x.le hB.size, fun k e => Nat.lt_of_lt_of_le (x.xs k e) hB.size⟩
/-- A new block is one of X's. -/
theorem HH.box (x : HH w0 B w hb h X) (o : Obj) : HH w0 B (w.alloc o) hb h (fun k => X k ∨ k = w.heap.size) := by
  obtain ⟨F, hp, hF⟩ := x.ex
  have hlt := hp.lt
  have hB : Below w.heap.size w (w.alloc o) := (Below.refl _ _).alloc (Nat.le_refl _) o
  refine ⟨⟨F, hp.below hB, fun k hk => ⟨(hF k hk).1, fun e => ?_⟩⟩, x.bel.trans (hB.mono x.le), Nat.le_trans x.le hB.size, fun k e => ?_⟩
  · rcases e with e | e
    · exact (hF k hk).2 e
    · have := hlt k hk
      omega
  · rcases e with e | e
    · exact Nat.lt_of_lt_of_le (x.xs k e) hB.size
    · simp [e]
/-- Blocks of X are written. -/
theorem HH.other (x : HH w0 B w hb h X) {S : Nat → Prop} (hk : Kept w w' S) (hS : ∀ k, S k → X k ∧ B ≤ k) (hB0 : 0 < B) : HH w0 B w' hb h X := by
  obtain ⟨F, hp, hF⟩ := x.ex
  exact ⟨⟨F, hp.kept hk (fun e => by have := (hS 0 e).2; omega) (fun k h1 h2 => (hF k h1).2 (hS k h2).1), hF⟩, x.bel.trans (hk.below x.le (fun i hi e => by have := (hS i e).2; omega)), Nat.le_trans x.le hk.size, fun k e => Nat.lt_of_lt_of_le (x.xs k e) hk.size⟩
theorem HH.off (x : HH w0 B w hb h X) (Y : Nat → Prop) (hY : ∀ k, Y k → X k) : HH w0 B w hb h Y := by
  obtain ⟨F, hp, hF⟩ := x.ex
  exact ⟨⟨F, hp, fun k hk => ⟨(hF k hk).1, fun e => (hF k hk).2 (hY k e)⟩⟩, x.bel, x.le, fun k e => x.xs k (hY k e)⟩
theorem its_row {g : Nat} {T : TypeId} {l : List Value} (hk : Kept w w' (Its B X)) (hX : X g) (hr : Row w g T l) : Row w' g T l := hr.kept hk (fun e => e.2 hX)
theorem HH.make (x : HH w0 B w hb h X) (r v : Int) :
    Calls Tryd.prog 17 #[.pointer (some ⟨hb, 0, none⟩), .int .i64 r, .int .i64 v] w fun e w' => e = .returned (.tuple #[.int .u64 ((h.makeR r v).1 : Int), .int .i64 ((h.makeR r v).2 : Int)]) ∧ HH w0 B w' hb (h.makeS r v) X ∧ Kept w w' (Its B X) := x.use (fun _ hp => hp.make r v)
theorem HH.ref (x : HH w0 B w hb h X) (s : Nat) (hs : s < 18446744073709551616) (f : Int) :
    Calls Tryd.prog 64 #[.pointer (some ⟨hb, 0, none⟩), .int .u64 (s : Int), .int .i64 f] w fun e w' => e = .returned (.tuple #[.agg #[.int .i64 (refR h.cs s f).1.1, .int .u64 ((refR h.cs s f).1.2 : Int)], .int .i64 ((refR h.cs s f).2 : Int)]) ∧ HH w0 B w' hb h X ∧ Kept w w' (Its B X) := x.use (fun _ hp => hp.ref s hs f)
theorem HH.setRef (x : HH w0 B w hb h X) (s : Nat) (hs : s < 18446744073709551616) (f : Int) (a : Int) (n : Nat) :
    Calls Tryd.prog 30 #[.pointer (some ⟨hb, 0, none⟩), .int .u64 (s : Int), .int .i64 f, .agg #[.int .i64 a, .int .u64 (n : Int)]] w fun e w' => e = .returned (.tuple #[.agg #[.int .i64 (h.setRefR s f (a, n)).1.1, .int .u64 ((h.setRefR s f (a, n)).1.2 : Int)], .int .i64 ((h.setRefR s f (a, n)).2 : Int)]) ∧ HH w0 B w' hb (h.setRefS s f (a, n)) X ∧ Kept w w' (Its B X) := x.use (fun _ hp => hp.setRef s hs f a n)
theorem HH.free (x : HH w0 B w hb h X) (s : Nat) (hs : s < 18446744073709551616) :
    Calls Tryd.prog 19 #[.pointer (some ⟨hb, 0, none⟩), .int .u64 (s : Int)] w fun e w' => e = .returned (.int .i64 (h.freeR s : Int)) ∧ HH w0 B w' hb (h.freeS s) X ∧ Kept w w' (Its B X) := x.use (fun _ hp => hp.free s hs)
theorem HH.last (x : HH w0 B w hb h X) :
    Calls Tryd.prog 25 #[.pointer (some ⟨hb, 0, none⟩)] w fun e w' => e = .returned (.int .u64 (h.last : Int)) ∧ w = w' := by
  obtain ⟨F, hp, _⟩ := x.ex
  exact hp.last
theorem HH.new (node n objects last : Nat) (h1 : 1 ≤ node ∧ node ≤ 64) (h2 : 1 ≤ objects ∧ objects ≤ 64) (h3 : last ≤ 72057594037927935) (h4 : 1 ≤ n ∧ n ≤ 256) (w : World) (hT : TB w) :
    Calls Tryd.prog 27 #[.int .i64 (node : Int), .int .i64 ((16 * n : Nat) : Int), .int .i64 (objects : Int), .int .u64 (last : Int)] w fun e w' => ∃ hb, e = .returned (.tuple #[.pointer (some ⟨hb, 0, none⟩), .int .i64 0]) ∧ HH w w.heap.size w' hb ⟨node, objects, last, List.replicate n bk0, []⟩ (fun _ => False) :=
  (hnew_ok node n objects last h1 h2 h3 h4 w hT).mono (fun _ _ ⟨hb, F, e, hp, hF, hB⟩ => ⟨hb, e, ⟨F, hp, fun k hk => ⟨hF k hk, id⟩⟩, hB, hB.size, fun _ e => e.elim⟩)
end

/-- The example's heap. -/
def st0 : HSt := ⟨1, 2, 5, List.replicate 1 bk0, []⟩
theorem st_k1 : st0.makeR 1 1 = (6, 0) := by kernel_rfl
theorem st_k2 : refR (st0.makeS 1 1).cs 6 0 = ((0, 0), 0) := by kernel_rfl
theorem st_k3 : (st0.makeS 1 1).setRefR 6 0 (2, 9) = ((0, 0), 0) := by kernel_rfl
theorem st_k4 : refR ((st0.makeS 1 1).setRefS 6 0 (2, 9)).cs 6 0 = ((2, 9), 0) := by kernel_rfl

end Go.Proofs.YtdafpfdmnccelaaDoor

namespace Go.Proofs.YtdafpfdmnccelaaDoor
open Go.RowKit

theorem copy_new (T E : TypeId) (c : Nat) (hT : Tryd.prog.underlying T = some (.slice E)) (hc : (Tryd.prog.info? E).map (·.size) = some c) (w : World) (Z : Array Value) (xs : List Value) (n g cap : Nat) (hZ : Z.size = xs.length) (hl : xs.length = n * c) (h1 : ∀ u ∈ xs, u.oneCell' = true)
    (hr : ∀ j u, xs[j]? = some u → w.cell? ⟨g, j, none⟩ = some u) (ty : TypeId) :
    ∃ W', (Builtin.copy_ #[T, T] ty #[.slice (some ⟨w.heap.size, 0, none⟩) n n, .slice (some ⟨g, 0, none⟩) n cap]).run Tryd.prog (w.alloc (.cells Z E)) = .ok (goInt n) W' ∧ Row W' w.heap.size E xs ∧ Below w.heap.size w W' := by
  have hnew := heap_alloc_new w (.cells Z E)
  have hA : Below w.heap.size w (w.alloc (.cells Z E)) := (Below.refl _ _).alloc (Nat.le_refl _) _
  have hsc := setCells_block w.heap.size xs 0 (w.alloc (.cells Z E)) Z E hnew (by omega)
  refine ⟨_, run_copy_wide (P := Tryd.prog) (w.alloc (.cells Z E)) T T ty E c w.heap.size 0 n n ⟨g, 0, none⟩ n cap n xs hT hc (by simp) hl (fun j v hv => ?_) (fun j hj => ?_) (fun j hj => ?_) h1, ?_, ?_⟩
  · rw [Addr.add_at, Nat.zero_add]
    have := hr j v hv
    exact (hA.cell (p := ⟨g, j, none⟩) (World.block_lt_of_cell? w _ this)).trans this
  · rw [cell_of_row _ _ _ _ _ _ hnew, Nat.zero_add, Array.getElem?_eq_getElem (by omega)]
    rfl
  · exact frozen_of_row _ _ _ _ _ hnew
  · have e : splice Z.toList 0 xs = xs := by
      unfold splice
      simp [hZ]
    unfold Row
    rw [hsc.1, e]
  · exact hA.trans (hsc.2.below (by simp) (fun i hi => by show ¬ (i = w.heap.size); omega))
theorem sizeID : (Tryd.prog.info? 51).map (·.size) = some 2 := by kernel_rfl
theorem sizeU64 : (Tryd.prog.info? 39).map (·.size) = some 1 := by kernel_rfl
theorem idsV_one (l : List (Int × Nat)) : ∀ u ∈ idsV l, u.oneCell' = true := by
  intro u hu
  unfold idsV at hu
  obtain ⟨y, _, hy⟩ := List.mem_flatMap.1 hu
  simp only [idV, List.mem_cons, List.not_mem_nil, or_false] at hy
  rcases hy with rfl | rfl <;> rfl
theorem uV_one (l : List Nat) : ∀ u ∈ l.map uV, u.oneCell' = true := by
  intro u hu
  obtain ⟨y, _, rfl⟩ := List.mem_map.1 hu
  rfl
theorem Row.at {w : World} {g : Nat} {T : TypeId} {l : List Value} (h : Row w g T l) (j : Nat) (u : Value) (hu : l[j]? = some u) : w.cell? ⟨g, j, none⟩ = some u := by
  have hj : j < l.length := (List.getElem?_eq_some_iff.1 hu).1
  rw [h.cell j hj]
  rw [List.getElem?_eq_getElem hj] at hu
  exact hu

set_option maxRecDepth 20000 in
set_option maxHeartbeats 1000000 in
theorem clone_ids (l : List (Int × Nat)) (hl : l.length ≤ 7) (g : Nat) (w : World) (h : Row w g 51 (idsV l)) :
    Calls Tryd.prog 59 #[.slice (some ⟨g, 0, none⟩) l.length l.length] w fun e w' => e = .returned (.slice (some ⟨w.heap.size, 0, none⟩) l.length l.length) ∧ Row w' w.heap.size 51 (idsV l) ∧ Below w.heap.size w w' := by
  obtain ⟨i, hi, hz0, hz1, hz2⟩ := info_parts Tryd.infoID
  have hm1 : ∀ W : World, (Instr.makeSlice 64 (.int .i64 (l.length : Int)) (.int .i64 (l.length : Int))).run Tryd.prog W = .ok (.slice (some ⟨W.heap.size, 0, none⟩) l.length l.length) (W.alloc (.cells (idsV (List.replicate l.length (0, 0))).toArray 51)) := fun W => by
    have := run_make (P := Tryd.prog) W 64 51 i _ Tryd.underlying64 hi hz0 .i64 .i64 (l.length : Int) (l.length : Int) (by omega) (Int.le_refl _) (by rw [hz2]; omega) (by omega)
    rw [hz1, Int.toNat_natCast, made_ids] at this
    exact this
  clear hi hz0 hz1 hz2
  have hc := fun ty => copy_new 64 51 2 Tryd.underlying64 sizeID w (idsV (List.replicate l.length (0, 0))).toArray (idsV l) l.length g l.length (by simp [idsV_len]) (idsV_len l) (idsV_one l) (fun j u hu => h.at j u hu) ty
  generalize (idsV (List.replicate l.length (0, 0))).toArray = Z at *
  generalize l.length = n at *
  go_enter Tryd.func59, Tryd.ntmps59
  go_wp2_with (obtain ⟨w1, u1, r1, b1⟩ := hc 3; refine wpList_copy_by rfl (.tmp 7) (.tmp 8) 64 64 rfl _ _ rfl rfl u1 ?_)
  go_ret
  exact ⟨rfl, r1, b1⟩
set_option maxRecDepth 20000 in
set_option maxHeartbeats 1000000 in
theorem clone_us (l : List Nat) (hl : l.length ≤ 7) (g : Nat) (w : World) (h : Row w g 39 (l.map uV)) :
    Calls Tryd.prog 60 #[.slice (some ⟨g, 0, none⟩) l.length l.length] w fun e w' => e = .returned (.slice (some ⟨w.heap.size, 0, none⟩) l.length l.length) ∧ Row w' w.heap.size 39 (l.map uV) ∧ Below w.heap.size w w' := by
  obtain ⟨i, hi, hz0, hz1, hz2⟩ := info_parts Tryd.infoU64
  have hm1 : ∀ W : World, (Instr.makeSlice 42 (.int .i64 (l.length : Int)) (.int .i64 (l.length : Int))).run Tryd.prog W = .ok (.slice (some ⟨W.heap.size, 0, none⟩) l.length l.length) (W.alloc (.cells ((List.replicate l.length 0).map uV).toArray 39)) := fun W => by
    have := run_make (P := Tryd.prog) W 42 39 i _ Tryd.underlying42 hi hz0 .i64 .i64 (l.length : Int) (l.length : Int) (by omega) (Int.le_refl _) (by rw [hz2]; omega) (by omega)
    rw [hz1, Int.toNat_natCast, made_u64] at this
    exact this
  clear hi hz0 hz1 hz2
  have hc := fun ty => copy_new 42 39 1 Tryd.underlying42 sizeU64 w ((List.replicate l.length 0).map uV).toArray (l.map uV) l.length g l.length (by simp) (by simp) (uV_one l) (fun j u hu => h.at j u hu) ty
  generalize ((List.replicate l.length 0).map uV).toArray = Z at *
  generalize hn : l.length = n at *
  clear hn
  go_enter Tryd.func60, Tryd.ntmps60
  go_wp2_with (obtain ⟨w1, u1, r1, b1⟩ := hc 3; refine wpList_copy_by rfl (.tmp 7) (.tmp 8) 42 42 rfl _ _ rfl rfl u1 ?_)
  go_ret
  exact ⟨rfl, r1, b1⟩

theorem Kept.put {w w' : World} {S : Nat → Prop} (h : Kept w w' S) (a : Addr) (u : Value) (ha : S a.block) : Kept w (w'.setCell a u) S :=
  h.trans (Kept.setCell w' a u) (fun i _ e => by have e' : i = a.block := e; rw [e']; exact ha)
theorem kept6 (w3 : World) (b : Nat) (u u0 u1 u2 u3 u4 : Value) : Kept w3 ((((((w3.setCell ⟨b + 1, 3, none⟩ u).setCell ⟨b, 0, none⟩ u0).setCell ⟨b, 1, none⟩ u1).setCell ⟨b, 2, none⟩ u2).setCell ⟨b, 3, none⟩ u3).setCell ⟨b, 4, none⟩ u4) (fun k => b ≤ k ∧ k ≤ b + 1) :=
  ((((((Kept.refl w3 _).put _ u ⟨Nat.le_succ _, Nat.le_refl _⟩).put _ u0 ⟨Nat.le_refl _, Nat.le_succ _⟩).put _ u1 ⟨Nat.le_refl _, Nat.le_succ _⟩).put _ u2 ⟨Nat.le_refl _, Nat.le_succ _⟩).put _ u3 ⟨Nat.le_refl _, Nat.le_succ _⟩).put _ u4 ⟨Nat.le_refl _, Nat.le_succ _⟩

section
variable {w : World} {hb ab mb : Nat} {h : HSt} {L : List Pl}
set_option maxRecDepth 20000 in
set_option maxHeartbeats 1000000 in
theorem hobj_no (x : HX w hb ab mb h L) (s : Nat) (hs : s < 18446744073709551616) (hg : getC h.cs s = none) :
    Calls Tryd.prog 24 #[.pointer (some ⟨hb, 0, none⟩), .int .u64 (s : Int)] w fun e w' => e = .returned (.tuple #[zO, .bool false]) ∧ Below w.heap.size w w' := by
  have hA : Below w.heap.size w (w.alloc (.cells #[.int .u64 0, .int .i64 0, .slice none 0 0, .slice none 0 0, .int .i64 0] 66)) := (Below.refl _ _).alloc (Nat.le_refl _) _
  have x1 := x.below hA
  have c4 := x1.c4
  have hgp : getP L s = none := by
    rw [x.get, Option.map_eq_none_iff] at hg
    exact hg
  have hlk := x1.look2N s hs hgp
  unfold zO at hlk ⊢
  go_enter Tryd.func24, Tryd.ntmps24
  go_wp2
  refine bodyPost_ret (v := .tuple #[.agg #[.int .u64 0, .int .i64 0, .slice none 0 0, .slice none 0 0, .int .i64 0], .bool false]) (by simp [results, Tryd.results24, go_sem, *]) rfl ⟨rfl, hA.alloc hA.size _⟩

set_option maxRecDepth 20000 in
set_option maxHeartbeats 1000000 in
theorem hobj_ok (x : HX w hb ab mb h L) (s : Nat) (hs : s < 18446744073709551616) (o : Oc) (hg : getC h.cs s = some o) :
    Calls Tryd.prog 24 #[.pointer (some ⟨hb, 0, none⟩), .int .u64 (s : Int)] w fun e w' => ∃ g1 g2, e = .returned (.tuple #[Pl.v ⟨o, 0, g1, g2⟩, .bool true]) ∧ Row w' g1 51 (idsV o.rf) ∧ Row w' g2 39 (o.vl.map uV) ∧ w.heap.size ≤ g1 ∧ g1 < g2 ∧ Below w.heap.size w w' := by
  have hA : Below w.heap.size w (w.alloc (.cells #[.int .u64 0, .int .i64 0, .slice none 0 0, .slice none 0 0, .int .i64 0] 66)) := (Below.refl _ _).alloc (Nat.le_refl _) _
  have x1 := x.below hA
  have c4 := x1.c4
  obtain ⟨p, hgp, rfl⟩ : ∃ p, getP L s = some p ∧ p.o = o := by
    rw [x.get, Option.map_eq_some_iff] at hg
    exact hg
  have hp := (getP_mem hgp).1
  have hlk := x1.look2S s hs hgp
  have hA2 : Below w.heap.size w ((w.alloc (.cells #[.int .u64 0, .int .i64 0, .slice none 0 0, .slice none 0 0, .int .i64 0] 66)).alloc (.cells #[.int .u64 (p.o.s : Int), .int .i64 (p.o.c : Int), .slice (some ⟨p.rb, 0, none⟩) p.o.rf.length p.o.rf.length, .slice (some ⟨p.vb, 0, none⟩) p.o.vl.length p.o.vl.length, .int .i64 (p.o.d : Int)] 66)) := hA.alloc hA.size _
  have hfl := x.fl hp
  have hc1 := fun W (hW : Below w.heap.size w W) => clone_ids p.o.rf hfl.1 p.rb W ((x.below hW).rows p hp).1
  have hc2 := fun W (hW : Below w.heap.size w W) => clone_us p.o.vl hfl.2.1 p.vb W ((x.below hW).rows p hp).2
  unfold Pl.v at hlk ⊢
  simp only
  generalize p.o.rf.length = rn at *
  generalize p.o.vl.length = vn at *
  have e1 := heap_a0 w (.cells #[.int .u64 0, .int .i64 0, .slice none 0 0, .slice none 0 0, .int .i64 0] 66) (.cells #[.int .u64 (p.o.s : Int), .int .i64 (p.o.c : Int), .slice (some ⟨p.rb, 0, none⟩) rn rn, .slice (some ⟨p.vb, 0, none⟩) vn vn, .int .i64 (p.o.d : Int)] 66)
  have e2 := heap_a1 w (.cells #[.int .u64 0, .int .i64 0, .slice none 0 0, .slice none 0 0, .int .i64 0] 66) (.cells #[.int .u64 (p.o.s : Int), .int .i64 (p.o.c : Int), .slice (some ⟨p.rb, 0, none⟩) rn rn, .slice (some ⟨p.vb, 0, none⟩) vn vn, .int .i64 (p.o.d : Int)] 66)
  have HE1 : Hid _ := hidden e1
  have HE2 : Hid _ := hidden e2
  clear e1 e2
  go_enter Tryd.func24, Tryd.ntmps24
  go_wp2_with (first
    | (go_at_call 59; refine (hc1 _ hA2).mono ?_; rintro e w2 ⟨rfl, r2, b2⟩; clear hc1; have q4 : Row w2 w.heap.size 66 [.int .u64 0, .int .i64 0, .slice none 0 0, .slice none 0 0, .int .i64 0] := (b2.block _ (by simp; omega)).trans HE1.out; have q6 : Row w2 (w.heap.size + 1) 66 [.int .u64 (p.o.s : Int), .int .i64 (p.o.c : Int), .slice (some ⟨p.rb, 0, none⟩) rn rn, .slice (some ⟨p.vb, 0, none⟩) vn vn, .int .i64 (p.o.d : Int)] := (b2.block _ (by simp)).trans HE2.out; have m2 := q6.cell 2 (by simp); have m3 := q6.cell 3 (by simp); have fz := q6.frozen; simp only [List.getElem_cons_succ, List.getElem_cons_zero] at m2 m3; have hB2 := hA2.trans (b2.mono hA2.size))
    | (go_at_call 60; refine (hc2 _ (hB2.setCell (Nat.le_succ _) _)).mono ?_; rintro e w3 ⟨rfl, r3, b3⟩; clear hc2 m2 m3 fz; have kS := Kept.setCell w2 ⟨w.heap.size + 1, 2, none⟩ (.slice (some ⟨w.heap.size + 1 + 1, 0, none⟩) rn rn); have p4 := (q4.kept kS (by show ¬ (w.heap.size = w.heap.size + 1); omega)).below b3; have p6 := (q6.set 2 (.slice (some ⟨w.heap.size + 1 + 1, 0, none⟩) rn rn)).below b3; have hz2 : w.heap.size + 2 < w2.heap.size := by { have := r2.lt; simp at this; omega }; have HR2 : Hid _ := hidden ((r2.kept kS (by show ¬ (_ = w.heap.size + 1); simp)).below b3); have HB3 : Hid _ := hidden ((hB2.setCell (Nat.le_succ _) _).trans (b3.mono (hB2.setCell (Nat.le_succ _) _).size)); have m0 := p6.cell 0 (by simp); have m1 := p6.cell 1 (by simp); have m2 := p6.cell 2 (by simp); have m3 := p6.cell 3 (by simp); have m4 := p6.cell 4 (by simp); have fz := p6.frozen; have n0 := p4.cell 0 (by simp); have n1 := p4.cell 1 (by simp); have n2 := p4.cell 2 (by simp); have n3 := p4.cell 3 (by simp); have n4 := p4.cell 4 (by simp); have fy := p4.frozen; simp at m0 m1 m2 m3 m4 n0 n1 n2 n3 n4; have hz3 : w2.heap.size < w3.heap.size := by { have := r3.lt; simpa using this }; have HR3 : Hid _ := hidden r3; clear r2 r3 b2 b3 q4 q6 kS p4 p6))
  refine bodyPost_ret (v := .tuple #[.agg #[.int .u64 (p.o.s : Int), .int .i64 (p.o.c : Int), .slice (some ⟨w.heap.size + 1 + 1, 0, none⟩) rn rn, .slice (some ⟨w2.heap.size, 0, none⟩) vn vn, .int .i64 (p.o.d : Int)], .bool true]) (by simp [results, Tryd.results24, go_sem, *]) rfl ⟨w.heap.size + 1 + 1, w2.heap.size, rfl, ?_⟩
  have hk := kept6 w3 w.heap.size (.slice (some ⟨w2.heap.size, 0, none⟩) vn vn) (.int .u64 (p.o.s : Int)) (.int .i64 (p.o.c : Int)) (.slice (some ⟨w.heap.size + 1 + 1, 0, none⟩) rn rn) (.slice (some ⟨w2.heap.size, 0, none⟩) vn vn) (.int .i64 (p.o.d : Int))
  refine ⟨?_, ?_, by omega, by omega, ?_⟩
  · have := HR2.out
    simp at this
    exact this.kept hk (by show ¬ (_ ∧ _); omega)
  · have := HR3.out
    simp at this
    exact this.kept hk (by show ¬ (_ ∧ _); omega)
  · exact HB3.out.trans (hk.below HB3.out.size (fun i hi => by show ¬ (_ ∧ _); omega))
end

end Go.Proofs.YtdafpfdmnccelaaDoor
