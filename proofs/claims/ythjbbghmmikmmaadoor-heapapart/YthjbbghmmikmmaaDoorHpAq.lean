/- What HeapApart reckons with. -/
import Derived.Test.YthjbbghmmikmmaaDoorHpR
import Derived.Test.YthjbbghmmikmmaaDoorHpEn
import Derived.Test.YthjbbghmmikmmaaDoorHpKn
namespace Go.Proofs.YthjbbghmmikmmaaDoor
open Go.RowKit

/-- n objects of two references and two numbers each. -/
def csA (n : Nat) (cc : Nat → Nat) (RF : Nat → Nat → Int × Nat) (VL : Nat → Nat → Nat) : List Oc := (List.range n).map (fun i => ⟨i + 1, cc i, [RF (i + 1) 0, RF (i + 1) 1], [VL (i + 1) 0, VL (i + 1) 1], 0⟩)
def up2 {α : Type} (f : Nat → Nat → α) (k i : Nat) (x : α) : Nat → Nat → α := fun a b => if a = k ∧ b = i then x else f a b
theorem csA_get (n : Nat) (cc : Nat → Nat) (RF : Nat → Nat → Int × Nat) (VL : Nat → Nat → Nat) (k : Nat) (h1 : 1 ≤ k) (h2 : k ≤ n) : getC (csA n cc RF VL) k = some ⟨k, cc (k - 1), [RF k 0, RF k 1], [VL k 0, VL k 1], 0⟩ := by
  have hs : (csA n cc RF VL).Pairwise (fun a b => a.s < b.s) := by
    unfold csA
    rw [List.pairwise_map]
    exact List.pairwise_lt_range.imp (fun h => by simpa using h)
  have hm : (⟨k, cc (k - 1), [RF k 0, RF k 1], [VL k 0, VL k 1], 0⟩ : Oc) ∈ csA n cc RF VL := by
    unfold csA
    rw [List.mem_map]
    refine ⟨k - 1, by rw [List.mem_range]; omega, ?_⟩
    simp only [show k - 1 + 1 = k by omega]
  exact getC_of hs hm
theorem csA_setR (n : Nat) (cc : Nat → Nat) (RF : Nat → Nat → Int × Nat) (VL : Nat → Nat → Nat) (k f : Nat) (hf : f < 2) (x : Int × Nat) : updC (csA n cc RF VL) k (fun o => o.setR f x) = csA n cc (up2 RF k f x) VL := by
  unfold updC csA
  rw [List.map_map]
  apply List.map_congr_left
  intro i _
  simp only [Function.comp]
  by_cases e : i + 1 = k
  · rw [if_pos e]
    rcases (show f = 0 ∨ f = 1 by omega) with rfl | rfl <;> simp [Oc.setR, up2, e]
  · rw [if_neg e]
    simp [up2, e]
theorem csA_setV (n : Nat) (cc : Nat → Nat) (RF : Nat → Nat → Int × Nat) (VL : Nat → Nat → Nat) (k f : Nat) (hf : f < 2) (x : Nat) : updC (csA n cc RF VL) k (fun o => o.setV f x) = csA n cc RF (up2 VL k f x) := by
  unfold updC csA
  rw [List.map_map]
  apply List.map_congr_left
  intro i _
  simp only [Function.comp]
  by_cases e : i + 1 = k
  · rw [if_pos e]
    rcases (show f = 0 ∨ f = 1 by omega) with rfl | rfl <;> simp [Oc.setV, up2, e]
  · rw [if_neg e]
    simp [up2, e]
theorem csA_more (n : Nat) (cc : Nat → Nat) (c : Nat) : csA n cc (fun _ _ => (0, 0)) (fun _ _ => 0) ++ [⟨n + 1, c, [(0, 0), (0, 0)], [0, 0], 0⟩] = csA (n + 1) (fun j => if j = n then c else cc j) (fun _ _ => (0, 0)) (fun _ _ => 0) := by
  unfold csA
  rw [List.range_succ, List.map_append]
  congr 1
  · apply List.map_congr_left
    intro i hi
    rw [List.mem_range] at hi
    simp only
    rw [if_neg (by omega)]
  · simp

/-- The rows of refs and vals. -/
def tbl {α : Type} (n : Nat) (f : Nat → Nat → α) : List α := (List.range ((n + 1) * 2)).map (fun j => f (j / 2) (j % 2))
theorem tbl_len {α : Type} (n : Nat) (f : Nat → Nat → α) : (tbl n f).length = (n + 1) * 2 := by simp [tbl]
theorem tbl_at {α : Type} (n : Nat) (f : Nat → Nat → α) (k i : Nat) (hk : k ≤ n) (hi : i < 2) : (tbl n f)[k * 2 + i]? = some (f k i) := by
  unfold tbl
  rw [List.getElem?_map, List.getElem?_range (by omega)]
  simp only [Option.map_some]
  rw [show (k * 2 + i) / 2 = k by omega, show (k * 2 + i) % 2 = i by omega]
theorem tbl_set {α : Type} (n : Nat) (f : Nat → Nat → α) (k i : Nat) (hi : i < 2) (x : α) : (tbl n f).set (k * 2 + i) x = tbl n (up2 f k i x) := by
  apply List.ext_getElem?
  intro j
  rw [List.getElem?_set]
  unfold tbl
  rw [List.getElem?_map, List.getElem?_map, List.length_map, List.length_range]
  by_cases hj : j < (n + 1) * 2
  · rw [List.getElem?_range hj]
    simp only [Option.map_some]
    by_cases e : k * 2 + i = j
    · rw [if_pos e, if_pos (by omega)]
      unfold up2
      rw [if_pos (by omega)]
    · rw [if_neg e]
      unfold up2
      rw [if_neg (by omega)]
  · rw [List.getElem?_eq_none (by simpa using hj)]
    simp only [Option.map_none]
    by_cases e : k * 2 + i = j
    · rw [if_pos e, if_neg (by omega)]
    · rw [if_neg e]
theorem tbl_const {α : Type} (n : Nat) (x : α) : tbl n (fun _ _ => x) = List.replicate ((n + 1) * 2) x := by
  unfold tbl
  rw [List.map_const', List.length_range]

theorem Tryd.infoID2 : (Tryd.prog.info? 61).map (fun i => (i.zero, i.size, i.bytes)) = some (some (.agg #[.int .i64 0, .int .u64 0, .int .i64 0, .int .u64 0]), 4, 32) := by kernel_rfl
theorem Tryd.infoU2 : (Tryd.prog.info? 62).map (fun i => (i.zero, i.size, i.bytes)) = some (some (.agg #[.int .u64 0, .int .u64 0]), 2, 16) := by kernel_rfl
theorem made_ids2 (m : Nat) : madeCells (Value.agg #[.int .i64 0, .int .u64 0, .int .i64 0, .int .u64 0]).cells (m * 4) = (idsV (List.replicate (m * 2) (0, 0))).toArray := by
  rw [← made_ids (m * 2)]
  apply Array.ext'
  apply List.ext_getElem?
  intro i
  show ((Array.range (m * 4)).map ((#[Value.int .i64 0, Value.int .u64 0, Value.int .i64 0, Value.int .u64 0] : Array Value)[· % 4]!)).toList[i]? = ((Array.range (m * 2 * 2)).map ((#[Value.int .i64 0, Value.int .u64 0] : Array Value)[· % 2]!)).toList[i]?
  rw [Array.getElem?_toList, Array.getElem?_toList, Array.getElem?_map, Array.getElem?_map, Array.getElem?_range, Array.getElem?_range, show m * 2 * 2 = m * 4 by omega]
  by_cases hi : i < m * 4
  · rw [if_pos hi]
    simp only [Option.map_some]
    rcases (show i % 4 = 0 ∨ i % 4 = 1 ∨ i % 4 = 2 ∨ i % 4 = 3 by omega) with e | e | e | e
    · rw [e, show i % 2 = 0 by omega]; rfl
    · rw [e, show i % 2 = 1 by omega]; rfl
    · rw [e, show i % 2 = 0 by omega]; rfl
    · rw [e, show i % 2 = 1 by omega]; rfl
  · rw [if_neg hi]
    rfl
theorem made_u2 (m : Nat) : madeCells (Value.agg #[.int .u64 0, .int .u64 0]).cells (m * 2) = ((List.replicate (m * 2) 0).map uV).toArray := by
  apply Array.ext'
  apply List.ext_getElem?
  intro i
  show ((Array.range (m * 2)).map ((#[Value.int .u64 0, Value.int .u64 0] : Array Value)[· % 2]!)).toList[i]? = _
  rw [Array.getElem?_toList, Array.getElem?_map, Array.getElem?_range, List.map_replicate, List.getElem?_replicate]
  by_cases hi : i < m * 2
  · rw [if_pos hi, if_pos hi]
    simp only [Option.map_some]
    rcases (show i % 2 = 0 ∨ i % 2 = 1 by omega) with e | e
    · rw [e]; rfl
    · rw [e]; rfl
  · rw [if_neg hi, if_neg hi]
    rfl

/-- Behind k objects. -/
structure MkS (h : HSt) (k : Nat) : Prop where
  most : h.most = 16
  last : h.last = k
  room : roomB h.bs 5 + k = 64
  cs : ∃ cc, h.cs = csA k cc (fun _ _ => (0, 0)) (fun _ _ => 0)
theorem MkS.zero : MkS ⟨1, 16, 0, List.replicate 32 bk0, []⟩ 0 := ⟨rfl, rfl, by rw [room0 32 5 (by omega) (by omega)]; rfl, fun _ => 0, rfl⟩
theorem MkS.step {h : HSt} {k : Nat} (H : h.Ok) (x : MkS h k) (hk : k < 12) : h.makeR 2 2 = (k + 1, 0) ∧ MkS (h.makeS 2 2) (k + 1) := by
  obtain ⟨cc, hcs⟩ := x.cs
  have hlen : h.cs.length = k := by rw [hcs]; simp [csA]
  obtain ⟨e1, e2, e3⟩ := make_room (r := 2) (v := 2) H.ao (by omega) (by have := x.most; omega) (by have := x.last; omega) (by show 0 < roomB h.bs 5; have := x.room; omega)
  refine ⟨by rw [e1, x.last], ?_⟩
  rw [e2]
  refine ⟨x.most, by show h.last + 1 = _; rw [x.last], ?_, ?_⟩
  · have h1 : roomB (allocL h.bs 5) 5 + 1 = roomB h.bs 5 := e3
    have := x.room
    show roomB (allocL h.bs 5) 5 + (k + 1) = 64
    omega
  · refine ⟨fun j => if j = k then (allocR h.bs 5).1 else cc j, ?_⟩
    show h.cs ++ [h.newO 2 2] = _
    rw [hcs]
    have : h.newO 2 2 = ⟨k + 1, (allocR h.bs 5).1, [(0, 0), (0, 0)], [0, 0], 0⟩ := by
      unfold HSt.newO
      rw [x.last]
      rfl
    rw [this]
    exact csA_more k cc _

/-- The heap, and what is kept beside it. -/
structure ApS (w : World) (g : Nat) (wr : World) (hb : Nat) (h : HSt) (n gr gv : Nat) (cc : Nat → Nat) (RF : Nat → Nat → Int × Nat) (VL : Nat → Nat → Nat) (X : Nat → Prop) : Prop where
  x : HH w g wr hb h X
  cs : h.cs = csA n cc RF VL
  rr : Row wr gr 61 (idsV (tbl n RF))
  rv : Row wr gv 62 ((tbl n VL).map uV)
  inX : X gr ∧ X gv
  ne : gr ≠ gv
  ge : 0 < g ∧ g ≤ gr ∧ g ≤ gv
section
variable {w wr w' : World} {g hb n gr gv : Nat} {h h' : HSt} {cc : Nat → Nat} {RF RF' : Nat → Nat → Int × Nat} {VL VL' : Nat → Nat → Nat} {X : Nat → Prop}
theorem ApS.box (y : ApS w g wr hb h n gr gv cc RF VL X) (o : Obj) : ApS w g (wr.alloc o) hb h n gr gv cc RF VL (fun k => X k ∨ k = wr.heap.size) :=
  have hA : Below wr.heap.size wr (wr.alloc o) := (Below.refl _ _).alloc (Nat.le_refl _) o
  ⟨y.x.box o, y.cs, y.rr.below hA, y.rv.below hA, ⟨Or.inl y.inX.1, Or.inl y.inX.2⟩, y.ne, y.ge⟩
theorem ApS.drew (y : ApS w g wr hb h n gr gv cc RF VL X) : ApS w g wr.drew hb h n gr gv cc RF VL X :=
  have hA : Below wr.heap.size wr wr.drew := (Below.refl _ _).drew
  ⟨y.x.read hA, y.cs, y.rr.below hA, y.rv.below hA, y.inX, y.ne, y.ge⟩
theorem ApS.go (y : ApS w g wr hb h n gr gv cc RF VL X) (hx : HH w g w' hb h' X) (hk : Kept wr w' (Its g X)) (hcs : h'.cs = csA n cc RF' VL') : (Row w' gr 61 (idsV (tbl n RF)) ∧ Row w' gv 62 ((tbl n VL).map uV)) ∧ HH w g w' hb h' X ∧ h'.cs = csA n cc RF' VL' :=
  ⟨⟨its_row hk y.inX.1 y.rr, its_row hk y.inX.2 y.rv⟩, hx, hcs⟩
theorem ApS.setR (hx : HH w g wr hb h X) (k f : Nat) (hk : k ≤ n) (hf : f < 2) (a : Int) (m : Nat) (hcs : h.cs = csA n cc (up2 RF k f (a, m)) VL) (rr : Row wr gr 61 (idsV (tbl n RF))) (rv : Row wr gv 62 ((tbl n VL).map uV)) (inX : X gr ∧ X gv) (ne : gr ≠ gv) (ge : 0 < g ∧ g ≤ gr ∧ g ≤ gv) :
    ApS w g ((wr.setCell ⟨gr, k * 4 + f * 2, none⟩ (.int .i64 a)).setCell ⟨gr, k * 4 + f * 2 + 1, none⟩ (.int .u64 (m : Int))) hb h n gr gv cc (up2 RF k f (a, m)) VL X := by
  have hkp : Kept wr ((wr.setCell ⟨gr, k * 4 + f * 2, none⟩ (.int .i64 a)).setCell ⟨gr, k * 4 + f * 2 + 1, none⟩ (.int .u64 (m : Int))) (fun j => j = gr) := (Kept.setCell wr ⟨gr, _, none⟩ _).trans (Kept.setCell _ ⟨gr, _, none⟩ _) (fun _ _ e => e)
  refine ⟨hx.other hkp (fun j e => by have e' : j = gr := e; rw [e']; exact ⟨inX.1, ge.2.1⟩) ge.1, hcs, ?_, rv.kept hkp (by show ¬ (gv = gr); omega), inX, ne, ge⟩
  rw [← tbl_set n RF k f hf, ← idsV_set _ _ (by rw [tbl_len]; omega), show (k * 2 + f) * 2 = k * 4 + f * 2 by omega]
  exact (rr.set _ _).set _ _
theorem ApS.setV (hx : HH w g wr hb h X) (k f : Nat) (hf : f < 2) (m : Nat) (hcs : h.cs = csA n cc RF (up2 VL k f m)) (rr : Row wr gr 61 (idsV (tbl n RF))) (rv : Row wr gv 62 ((tbl n VL).map uV)) (inX : X gr ∧ X gv) (ne : gr ≠ gv) (ge : 0 < g ∧ g ≤ gr ∧ g ≤ gv) :
    ApS w g (wr.setCell ⟨gv, k * 2 + f, none⟩ (.int .u64 (m : Int))) hb h n gr gv cc RF (up2 VL k f m) X := by
  have hkp : Kept wr (wr.setCell ⟨gv, k * 2 + f, none⟩ (.int .u64 (m : Int))) (fun j => j = gv) := Kept.setCell wr ⟨gv, _, none⟩ _
  refine ⟨hx.other hkp (fun j e => by have e' : j = gv := e; rw [e']; exact ⟨inX.2, ge.2.2⟩) ge.1, hcs, rr.kept hkp (by show ¬ (gr = gv); omega), ?_, inX, ne, ge⟩
  rw [← tbl_set n VL k f hf, ← uV_set]
  exact rv.set _ _
theorem ApS.off (y : ApS w g wr hb h n gr gv cc RF VL X) (Y : Nat → Prop) (hY : ∀ k, Y k → X k) (hin : Y gr ∧ Y gv) : ApS w g wr hb h n gr gv cc RF VL Y := ⟨y.x.off Y hY, y.cs, y.rr, y.rv, hin, y.ne, y.ge⟩
theorem ApS.rc (y : ApS w g wr hb h n gr gv cc RF VL X) (k f : Nat) (hk : k ≤ n) (hf : f < 2) : wr.cell? ⟨gr, k * 4 + f * 2, none⟩ = some (.int .i64 (RF k f).1) ∧ wr.cell? ⟨gr, k * 4 + f * 2 + 1, none⟩ = some (.int .u64 ((RF k f).2 : Int)) := by
  have h0 := tbl_at n RF k f hk hf
  have hl : k * 2 + f < (tbl n RF).length := by rw [tbl_len]; omega
  rw [List.getElem?_eq_getElem hl] at h0
  have h0 := Option.some.inj h0
  obtain ⟨h1, h2⟩ := idsV_at (tbl n RF) (k * 2 + f) hl
  rw [h0, show (k * 2 + f) * 2 = k * 4 + f * 2 by omega] at h1 h2
  exact ⟨y.rr.at _ _ h1, y.rr.at _ _ h2⟩
theorem ApS.vc (y : ApS w g wr hb h n gr gv cc RF VL X) (k f : Nat) (hk : k ≤ n) (hf : f < 2) : wr.cell? ⟨gv, k * 2 + f, none⟩ = some (.int .u64 (VL k f : Int)) := y.rv.at _ _ (by rw [List.getElem?_map, tbl_at n VL k f hk hf]; rfl)
end

end Go.Proofs.YthjbbghmmikmmaaDoor
