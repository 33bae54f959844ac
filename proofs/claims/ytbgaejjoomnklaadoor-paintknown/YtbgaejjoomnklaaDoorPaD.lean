/- A paint in memory. -/
import Derived.Test.YtbgaejjoomnklaaDoorPaM
namespace Go.Proofs.YtbgaejjoomnklaaDoor
open Go.RowKit

/-- A paint at pb of the heap at hb: its stack at sb (with the list v), its maps at mb and tb. -/
structure PX (w : World) (pb hb base sb mb tb : Nat) (v : Value) (p : PSt) : Prop where
  box : Row w pb 87 [.pointer (some ⟨hb, 0, none⟩), .int .u64 (p.turns : Int), .pointer (some ⟨sb, 0, none⟩), .map (some mb), .map (some tb)]
  sk : SKU w sb base v p.M (p.stk.map (fun n : Nat => (n : Int))) p.ov
  ma : MQ eU w mb (p.ma.map mE)
  me : MQ eI w tb (p.me.map tE)
  d : pb ≠ sb ∧ pb ≠ mb ∧ pb ≠ tb ∧ sb ≠ mb ∧ sb ≠ tb ∧ mb ≠ tb ∧ v.ownBlock ≠ some pb ∧ v.ownBlock ≠ some mb ∧ v.ownBlock ≠ some tb
  ge : base ≤ pb ∧ base ≤ sb ∧ base ≤ mb ∧ base ≤ tb
/-- Its blocks. -/
def pBl (pb sb mb tb : Nat) (v : Value) (k : Nat) : Prop := k = pb ∨ sBl sb v k ∨ k = mb ∨ k = tb
/-- A paint and its blocks. -/
structure PN (w : World) (pb hb base : Nat) (G : Nat → Prop) (p : PSt) : Prop where
  ex : ∃ sb mb tb v, PX w pb hb base sb mb tb v p ∧ ∀ k, G k ↔ pBl pb sb mb tb v k
/-- What became of it. -/
structure PGo (w w' : World) (pb hb base : Nat) (G : Nat → Prop) (p : PSt) : Prop where
  ex : ∃ G', PN w' pb hb base G' p ∧ ∀ k, G' k → G k ∨ w.heap.size ≤ k
  kept : Kept w w' G

section
variable {w w' : World} {pb hb base sb mb tb : Nat} {v : Value} {p p' : PSt} {G S : Nat → Prop}
theorem PX.kept (x : PX w pb hb base sb mb tb v p) (hk : Kept w w' S) (hs : ∀ k, pBl pb sb mb tb v k → ¬ S k) : PX w' pb hb base sb mb tb v p :=
  ⟨x.box.kept hk (hs _ (Or.inl rfl)), x.sk.kept hk (fun k h => hs k (Or.inr (Or.inl h))), x.ma.kept hk (hs _ (Or.inr (Or.inr (Or.inl rfl)))), x.me.kept hk (hs _ (Or.inr (Or.inr (Or.inr rfl)))), x.d, x.ge⟩
theorem PX.below (x : PX w pb hb base sb mb tb v p) (hb' : Below w.heap.size w w') : PX w' pb hb base sb mb tb v p := x.kept (kept_of_below hb' (fun _ => False)) (fun _ _ => id)
theorem PX.lt (x : PX w pb hb base sb mb tb v p) : ∀ k, pBl pb sb mb tb v k → k < w.heap.size := by
  intro k hk
  rcases hk with rfl | hk | rfl | rfl
  · exact x.box.lt
  · exact x.sk.lt k hk
  · exact x.ma.lt
  · exact x.me.lt
theorem PX.gek (x : PX w pb hb base sb mb tb v p) : ∀ k, pBl pb sb mb tb v k → base ≤ k := by
  intro k hk
  rcases hk with rfl | (rfl | hk) | rfl | rfl
  · exact x.ge.1
  · exact x.ge.2.1
  · exact (own_lt x.sk.own k hk).1
  · exact x.ge.2.2.1
  · exact x.ge.2.2.2
theorem PX.pn (x : PX w pb hb base sb mb tb v p) : PN w pb hb base (pBl pb sb mb tb v) p := ⟨sb, mb, tb, v, x, fun _ => Iff.rfl⟩
theorem PN.kept (x : PN w pb hb base G p) (hk : Kept w w' S) (hs : ∀ k, G k → ¬ S k) : PN w' pb hb base G p := by
  obtain ⟨sb, mb, tb, v, hx, hG⟩ := x.ex
  exact ⟨sb, mb, tb, v, hx.kept hk (fun k h => hs k ((hG k).2 h)), hG⟩
theorem PN.below (x : PN w pb hb base G p) (hB : Below w.heap.size w w') : PN w' pb hb base G p := x.kept (kept_of_below hB (fun _ => False)) (fun _ _ => id)
theorem PN.lt (x : PN w pb hb base G p) : ∀ k, G k → k < w.heap.size := by
  obtain ⟨sb, mb, tb, v, hx, hG⟩ := x.ex
  exact fun k h => hx.lt k ((hG k).1 h)
theorem PN.ge (x : PN w pb hb base G p) : ∀ k, G k → base ≤ k := by
  obtain ⟨sb, mb, tb, v, hx, hG⟩ := x.ex
  exact fun k h => hx.gek k ((hG k).1 h)
theorem PN.stay (x : PN w pb hb base G p) (hB : Below w.heap.size w w') : PGo w w' pb hb base G p := ⟨⟨G, x.below hB, fun _ h => Or.inl h⟩, kept_of_below hB _⟩
theorem PGo.trans {w1 : World} {G1 : Nat → Prop} (h1 : ∀ k, G1 k → G k ∨ w.heap.size ≤ k) (k1 : Kept w w1 G) (h2 : PGo w1 w' pb hb base G1 p) : PGo w w' pb hb base G p := by
  obtain ⟨G2, hp, hG2⟩ := h2.ex
  refine ⟨⟨G2, hp, fun k hk => ?_⟩, k1.trans h2.kept (fun i hi e => ?_)⟩
  · rcases hG2 k hk with e | e
    · exact h1 k e
    · exact Or.inr (Nat.le_trans k1.size e)
  · rcases h1 i e with e | e
    · exact e
    · omega
theorem PX.fit (hG : ∀ k, G k ↔ pBl pb sb mb tb v k) (x : PGo w w' pb hb base (pBl pb sb mb tb v) p) : PGo w w' pb hb base G p := by
  have e : G = pBl pb sb mb tb v := funext fun k => propext (hG k)
  rw [e]
  exact x
theorem PX.c0 (x : PX w pb hb base sb mb tb v p) : w.cell? ⟨pb, 0, none⟩ = some (.pointer (some ⟨hb, 0, none⟩)) := x.box.cell 0 (by simp)
theorem PX.c1 (x : PX w pb hb base sb mb tb v p) : w.cell? ⟨pb, 1, none⟩ = some (.int .u64 (p.turns : Int)) := x.box.cell 1 (by simp)
theorem PX.c2 (x : PX w pb hb base sb mb tb v p) : w.cell? ⟨pb, 2, none⟩ = some (.pointer (some ⟨sb, 0, none⟩)) := x.box.cell 2 (by simp)
theorem PX.c3 (x : PX w pb hb base sb mb tb v p) : w.cell? ⟨pb, 3, none⟩ = some (.map (some mb)) := x.box.cell 3 (by simp)
theorem PX.c4 (x : PX w pb hb base sb mb tb v p) : w.cell? ⟨pb, 4, none⟩ = some (.map (some tb)) := x.box.cell 4 (by simp)
theorem zeroM (w : World) : (zeroValue 90).run Tryd.prog w = .ok (.agg #[.int .i64 0, .bool false]) w := by kernel_rfl
theorem zeroI (w : World) : (zeroValue 3).run Tryd.prog w = .ok (.int .i64 0) w := by kernel_rfl
/-- The mark that is looked up. -/
def markD (p : PSt) (s : Nat) : Nat × Bool := (getA p.ma s).getD (0, false)
theorem PX.look (x : PX w pb hb base sb mb tb v p) (s : Nat) : (Instr.lookup 84 (.map (some mb)) (.int .u64 (s : Int)) true).run Tryd.prog w = .ok (.tuple #[.agg #[.int .i64 ((markD p s).1 : Int), .bool (markD p s).2], .bool (getA p.ma s).isSome]) w := by
  have h := x.ma.look2 klU Tryd.underlying84 (zeroM w) s
  have e : lookQ (p.ma.map mE) s = (getA p.ma s).map mV := look_map mV p.ma s
  rw [e] at h
  unfold markD
  cases hg : getA p.ma s with
  | none => rw [hg] at h; exact h
  | some m => rw [hg] at h; exact h
theorem PX.look1 (x : PX w pb hb base sb mb tb v p) (s : Nat) : (Instr.lookup 84 (.map (some mb)) (.int .u64 (s : Int)) false).run Tryd.prog w = .ok (.agg #[.int .i64 ((markD p s).1 : Int), .bool (markD p s).2]) w := by
  have h := x.ma.look klU Tryd.underlying84 (zeroM w) s
  have e : lookQ (p.ma.map mE) s = (getA p.ma s).map mV := look_map mV p.ma s
  rw [e] at h
  unfold markD
  cases hg : getA p.ma s with
  | none => rw [hg] at h; exact h
  | some m => rw [hg] at h; exact h
theorem PX.lookT (x : PX w pb hb base sb mb tb v p) (a : Int) (n : Nat) : (Instr.lookup 85 (.map (some tb)) (.agg #[.int .i64 a, .int .u64 (n : Int)]) true).run Tryd.prog w = .ok (.tuple #[.int .i64 ((metR p (a, n)).1 : Int), .bool (metR p (a, n)).2]) w := by
  have h := x.me.look2 klI Tryd.underlying85 (zeroI w) (a, n)
  have e : lookQ (p.me.map tE) (a, n) = (getA p.me (a, n)).map tV := look_map tV p.me (a, n)
  rw [e] at h
  unfold metR
  cases hg : getA p.me (a, n) with
  | none => rw [hg] at h; exact h
  | some m => rw [hg] at h; exact h
/-- A mark is put. -/
theorem PX.putM (x : PX w pb hb base sb mb tb v p) (s r : Nat) (g : Bool) : ∃ o o', w.heap[mb]? = some o ∧ (∀ W : World, W.heap[mb]? = some o → (Instr.mapUpdate 84 (.map (some mb)) (.int .u64 (s : Int)) (.agg #[.int .i64 (r : Int), .bool g])).run Tryd.prog W = .ok () (ChangeMaps.setBlock W mb o')) ∧
    ∀ W : World, PX W pb hb base sb mb tb v p → PX (ChangeMaps.setBlock W mb o') pb hb base sb mb tb v { p with ma := putA p.ma s (r, g) } ∧ Kept W (ChangeMaps.setBlock W mb o') (fun k => k = mb) := by
  obtain ⟨o, o', h1, h2, h3⟩ := x.ma.upd klU Tryd.underlying84 s (mV (r, g))
  have e : putQ (p.ma.map mE) s (mV (r, g)) = (putA p.ma s (r, g)).map mE := put_map mV p.ma s (r, g)
  refine ⟨o, o', h1, h2, fun W y => ?_⟩
  have hk := kept_setBlock W mb o'
  have hm := h3 W y.ma.lt
  rw [e] at hm
  obtain ⟨d1, d2, d3, d4, d5, d6, d7, d8, d9⟩ := y.d
  refine ⟨⟨y.box.kept hk d2, y.sk.kept hk (fun k hq e => ?_), hm, y.me.kept hk (fun e => d6 e.symm), y.d, y.ge⟩, hk⟩
  have e' : k = mb := e
  subst e'
  rcases hq with hq | hq
  · exact d4 hq.symm
  · exact d8 hq
/-- A rank is put. -/
theorem PX.putT (x : PX w pb hb base sb mb tb v p) (a : Int) (n r : Nat) : ∃ o o', w.heap[tb]? = some o ∧ (∀ W : World, W.heap[tb]? = some o → (Instr.mapUpdate 85 (.map (some tb)) (.agg #[.int .i64 a, .int .u64 (n : Int)]) (.int .i64 (r : Int))).run Tryd.prog W = .ok () (ChangeMaps.setBlock W tb o')) ∧
    ∀ W : World, PX W pb hb base sb mb tb v p → PX (ChangeMaps.setBlock W tb o') pb hb base sb mb tb v { p with me := putA p.me (a, n) r } ∧ Kept W (ChangeMaps.setBlock W tb o') (fun k => k = tb) := by
  obtain ⟨o, o', h1, h2, h3⟩ := x.me.upd klI Tryd.underlying85 (a, n) (tV r)
  have e : putQ (p.me.map tE) (a, n) (tV r) = (putA p.me (a, n) r).map tE := put_map tV p.me (a, n) r
  refine ⟨o, o', h1, h2, fun W y => ?_⟩
  have hk := kept_setBlock W tb o'
  have hm := h3 W y.me.lt
  rw [e] at hm
  obtain ⟨d1, d2, d3, d4, d5, d6, d7, d8, d9⟩ := y.d
  refine ⟨⟨y.box.kept hk d3, y.sk.kept hk (fun k hq e => ?_), y.ma.kept hk d6, hm, y.d, y.ge⟩, hk⟩
  have e' : k = tb := e
  subst e'
  rcases hq with hq | hq
  · exact d5 hq.symm
  · exact d9 hq
end

end Go.Proofs.YtbgaejjoomnklaaDoor
