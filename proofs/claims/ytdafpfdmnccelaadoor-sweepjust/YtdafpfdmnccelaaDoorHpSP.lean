import Derived.Test.YtdafpfdmnccelaaDoorHpOP
import Derived.Test.YtdafpfdmnccelaaDoorArVP
import Derived.Deep.RegionHeld
import Derived.Deep.RegionWith
import Derived.Deep.RegionLaw
/- The plain heap in memory. -/
/- The plain heap: Get, Ref, Val, Next. -/
/- The plain heap: Ref, Val, SetVal, SetIn; ID. -/
/- The plain heap: SetVal, SetIn, SetRef. -/
/- The plain heap: New, Make. -/
namespace Go.Proofs.YtdafpfdmnccelaaDoor
open Go.RowKit

/-- An object's cells; a pointer to it. -/
def Pl.cells (p : Pl) : List Value := [.int .u64 (p.o.s : Int), .int .i64 (p.o.c : Int), .slice (some ⟨p.rb, 0, none⟩) p.o.rf.length p.o.rf.length, .slice (some ⟨p.vb, 0, none⟩) p.o.vl.length p.o.vl.length, .int .i64 (p.o.d : Int)]
def Pl.ptr (p : Pl) : Value := .pointer (some ⟨p.pb, 0, none⟩)
def Pl.bl3 (p : Pl) : List Nat := [p.pb, p.rb, p.vb]
def rBl (rb ra rc rt : Nat) (lv : Value) (M : List Pl) : List Nat := rb :: ra :: rc :: rt :: (lv.ownBlock.toList ++ M.flatMap Pl.bl3)
/-- The plain heap at block rb. -/
structure RX (w : World) (rb ra rc rt : Nat) (lv : Value) (h : HSt) (M : List Pl) : Prop where
  box : Row w rb 58 [.int .i64 (h.node : Int), .int .i64 (h.most : Int), .int .u64 (h.last : Int), .pointer (some ⟨ra, 0, none⟩), lv]
  ar : RA w ra rc rt h.bs
  ls : w.ownsRow 0 67 1 lv M.length (M.map Pl.ptr)
  rows : ∀ p ∈ M, Row w p.pb 66 p.cells ∧ Row w p.rb 51 (idsV p.o.rf) ∧ Row w p.vb 39 (p.o.vl.map uV)
  nd : (rBl rb ra rc rt lv M).Nodup
  cs : M.map (·.o) = h.cs
  ok : h.Ok
section
variable {w w' : World} {rb ra rc rt : Nat} {lv : Value} {h : HSt} {M : List Pl} {S : Nat → Prop}
theorem mem3 {M : List Pl} {p : Pl} (hp : p ∈ M) {k : Nat} (hk : k ∈ p.bl3) : k ∈ M.flatMap Pl.bl3 := List.mem_flatMap.2 ⟨p, hp, hk⟩
theorem memR {rb ra rc rt : Nat} {lv : Value} {M : List Pl} {p : Pl} (hp : p ∈ M) {k : Nat} (hk : k ∈ p.bl3) : k ∈ rBl rb ra rc rt lv M := by
  simp only [rBl, List.mem_cons, List.mem_append]
  exact Or.inr (Or.inr (Or.inr (Or.inr (Or.inr (mem3 hp hk)))))
theorem memL {rb ra rc rt : Nat} {lv : Value} {M : List Pl} {k : Nat} (hk : lv.ownBlock = some k) : k ∈ rBl rb ra rc rt lv M := by
  simp only [rBl, List.mem_cons, List.mem_append]
  exact Or.inr (Or.inr (Or.inr (Or.inr (Or.inl (by rw [hk]; simp)))))
theorem RX.lsLt (x : RX w rb ra rc rt lv h M) {k : Nat} (hk : lv.ownBlock = some k) : k < w.heap.size := by
  obtain ⟨_, ⟨e, h0⟩ | ⟨g, cap, cur, e, hb, hg, _⟩⟩ := x.ls
  · rw [e] at hk; simp [Value.ownBlock] at hk
  · rw [e] at hk
    simp only [Value.ownBlock, Option.some.injEq] at hk
    subst hk
    exact (Array.getElem?_eq_some_iff.1 hg).1
theorem RX.lt (x : RX w rb ra rc rt lv h M) : ∀ k ∈ rBl rb ra rc rt lv M, k < w.heap.size := by
  intro k hk
  obtain ⟨l1, l2, l3⟩ := x.ar.lt
  simp only [rBl, List.mem_cons, List.mem_append, List.mem_flatMap, Option.mem_toList] at hk
  rcases hk with rfl | rfl | rfl | rfl | hk | ⟨p, hp, hk⟩
  · exact x.box.lt
  · exact l1
  · exact l2
  · exact l3
  · exact x.lsLt hk
  · simp only [Pl.bl3, List.mem_cons, List.not_mem_nil, or_false] at hk
    rcases hk with rfl | rfl | rfl
    · exact (x.rows p hp).1.lt
    · exact (x.rows p hp).2.1.lt
    · exact (x.rows p hp).2.2.lt
theorem RX.kept (x : RX w rb ra rc rt lv h M) (hk : Kept w w' S) (hs : ∀ k ∈ rBl rb ra rc rt lv M, ¬ S k) : RX w' rb ra rc rt lv h M :=
  ⟨x.box.kept hk (hs _ (by simp [rBl])), x.ar.kept hk (hs _ (by simp [rBl])) (hs _ (by simp [rBl])) (hs _ (by simp [rBl])), own_kept x.ls hk (fun k e => hs k (memL e)),
    fun p hp => ⟨(x.rows p hp).1.kept hk (hs _ (memR hp (by simp [Pl.bl3]))), (x.rows p hp).2.1.kept hk (hs _ (memR hp (by simp [Pl.bl3]))), (x.rows p hp).2.2.kept hk (hs _ (memR hp (by simp [Pl.bl3])))⟩, x.nd, x.cs, x.ok⟩
theorem RX.below (x : RX w rb ra rc rt lv h M) (hB : Below w.heap.size w w') : RX w' rb ra rc rt lv h M := x.kept (kept_of_below hB (fun _ => False)) (fun _ _ => id)
theorem RX.c1 (x : RX w rb ra rc rt lv h M) : w.cell? ⟨rb, 1, none⟩ = some (.int .i64 (h.most : Int)) := x.box.cell 1 (by simp)
theorem RX.c2 (x : RX w rb ra rc rt lv h M) : w.cell? ⟨rb, 2, none⟩ = some (.int .u64 (h.last : Int)) := x.box.cell 2 (by simp)
theorem RX.c3 (x : RX w rb ra rc rt lv h M) : w.cell? ⟨rb, 3, none⟩ = some (.pointer (some ⟨ra, 0, none⟩)) := x.box.cell 3 (by simp)
theorem RX.c4 (x : RX w rb ra rc rt lv h M) : w.cell? ⟨rb, 4, none⟩ = some lv := x.box.cell 4 (by simp)
theorem RX.count (x : RX w rb ra rc rt lv h M) : M.length = h.cs.length := by rw [← x.cs, List.length_map]
theorem RX.few (x : RX w rb ra rc rt lv h M) : M.length ≤ 64 := by
  have := x.count
  have := x.ok.cnt
  have := x.ok.most
  omega
theorem RX.get (x : RX w rb ra rc rt lv h M) (s : Nat) : getC h.cs s = (getP M s).map (·.o) := by rw [← x.cs, getP_o]
theorem RX.slice (x : RX w rb ra rc rt lv h M) : ∃ ao cap, lv = .slice ao M.length cap ∧ M.length ≤ cap ∧ cap ≤ maxLen ∧ (ao = none → cap = 0) := own_slice x.ls
theorem RX.at (x : RX w rb ra rc rt lv h M) (i : Nat) (hi : i < M.length) : ∃ g cap, lv = .slice (some ⟨g, 0, none⟩) M.length cap ∧ M.length ≤ cap ∧ g < w.heap.size ∧ ∀ j (hj : j < M.length), w.cell? ⟨g, j, none⟩ = some (.pointer (some ⟨M[j].pb, 0, none⟩)) := by
  obtain ⟨_, ⟨e, h0⟩ | ⟨g, cap, cur, e, hb, hg, hn, hm, hs, ht⟩⟩ := x.ls
  · omega
  · refine ⟨g, cap, e, hn, (Array.getElem?_eq_some_iff.1 hg).1, fun j hj => ?_⟩
    rw [cell_of_row w g j _ _ _ hg]
    have h2 : (cur.toList.take (M.length * 1))[j]? = some (.pointer (some ⟨M[j].pb, 0, none⟩)) := by
      rw [ht, List.getElem?_map, List.getElem?_eq_getElem hj]
      rfl
    rw [List.getElem?_take_of_lt (by omega)] at h2
    simpa using h2
theorem RX.srt (x : RX w rb ra rc rt lv h M) : (M.map (·.o)).Pairwise (fun a b => a.s < b.s) := by rw [x.cs]; exact x.ok.srt
theorem RX.fl (x : RX w rb ra rc rt lv h M) {p : Pl} (hp : p ∈ M) : p.o.rf.length ≤ 7 ∧ p.o.vl.length ≤ 7 ∧ p.o.c ≤ 10000 ∧ p.o.d ≤ 40 := x.ok.fl p.o (by rw [← x.cs]; exact List.mem_map.2 ⟨p, hp, rfl⟩)
theorem RX.pc (x : RX w rb ra rc rt lv h M) {p : Pl} (hp : p ∈ M) (j : Nat) (u : Value) (hu : p.cells[j]? = some u) : w.cell? ⟨p.pb, j, none⟩ = some u := (x.rows p hp).1.at j u hu
theorem RX.rc' (x : RX w rb ra rc rt lv h M) {p : Pl} (hp : p ∈ M) (i : Nat) (hi : i < p.o.rf.length) : w.cell? ⟨p.rb, i * 2, none⟩ = some (.int .i64 p.o.rf[i].1) ∧ w.cell? ⟨p.rb, i * 2 + 1, none⟩ = some (.int .u64 (p.o.rf[i].2 : Int)) := by
  obtain ⟨h1, h2⟩ := idsV_at p.o.rf i hi
  exact ⟨(x.rows p hp).2.1.at _ _ h1, (x.rows p hp).2.1.at _ _ h2⟩
theorem RX.vc (x : RX w rb ra rc rt lv h M) {p : Pl} (hp : p ∈ M) (i : Nat) (hi : i < p.o.vl.length) : w.cell? ⟨p.vb, i, none⟩ = some (.int .u64 (p.o.vl[i] : Int)) := (x.rows p hp).2.2.at _ _ (by rw [List.getElem?_map, List.getElem?_eq_getElem hi]; rfl)

theorem bl3_ne {M : List Pl} (h : (M.flatMap Pl.bl3).Nodup) {p q : Pl} (hp : p ∈ M) (hq : q ∈ M) (hne : p.o.s ≠ q.o.s) : ∀ k ∈ p.bl3, ¬ k ∈ q.bl3 := by
  induction M with
  | nil => cases hp
  | cons x l ih =>
    rw [List.flatMap_cons, List.nodup_append] at h
    obtain ⟨_, h2, h3⟩ := h
    intro k hk hk'
    rcases List.mem_cons.1 hp with e1 | h1
    · rcases List.mem_cons.1 hq with e2 | h4
      · exact hne (by rw [e1, e2])
      · subst e1
        exact h3 k hk k (List.mem_flatMap.2 ⟨q, h4, hk'⟩) rfl
    · rcases List.mem_cons.1 hq with e2 | h4
      · subst e2
        exact h3 k hk' k (List.mem_flatMap.2 ⟨p, h1, hk⟩) rfl
      · exact ih h2 h1 h4 k hk hk'
theorem own3 {M : List Pl} (h : (M.flatMap Pl.bl3).Nodup) {p : Pl} (hp : p ∈ M) : p.pb ≠ p.rb ∧ p.pb ≠ p.vb ∧ p.rb ≠ p.vb := by
  induction M with
  | nil => cases hp
  | cons x l ih =>
    rw [List.flatMap_cons, List.nodup_append] at h
    rcases List.mem_cons.1 hp with e | h1
    · subst e
      have := h.1
      simp [Pl.bl3] at this
      exact ⟨this.1.1, this.1.2, this.2⟩
    · exact ih h.2.1 h1
/-- The blocks are apart. -/
theorem rnd_parts {rb ra rc rt : Nat} {lv : Value} {M : List Pl} (h : (rBl rb ra rc rt lv M).Nodup) : (rb ≠ ra ∧ rb ≠ rc ∧ rb ≠ rt ∧ ra ≠ rc ∧ ra ≠ rt ∧ rc ≠ rt) ∧ (∀ k, lv.ownBlock = some k → k ≠ rb ∧ k ≠ ra ∧ k ≠ rc ∧ k ≠ rt) ∧ (M.flatMap Pl.bl3).Nodup ∧ (∀ k ∈ M.flatMap Pl.bl3, k ≠ rb ∧ k ≠ ra ∧ k ≠ rc ∧ k ≠ rt ∧ lv.ownBlock ≠ some k) := by
  unfold rBl at h
  simp only [List.nodup_cons, List.mem_cons, List.mem_append, not_or, List.nodup_append, Option.mem_toList] at h
  obtain ⟨⟨a1, a2, a3, a4, a5⟩, ⟨b2, b3, b4, b5⟩, ⟨c3, c4, c5⟩, ⟨d4, d5⟩, _, f1, f2⟩ := h
  refine ⟨⟨a1, a2, a3, b2, b3, c3⟩, fun k hk => ⟨fun e => a4 (e ▸ hk), fun e => b4 (e ▸ hk), fun e => c4 (e ▸ hk), fun e => d4 (e ▸ hk)⟩, f1, fun k hk => ⟨fun e => a5 (e ▸ hk), fun e => b5 (e ▸ hk), fun e => c5 (e ▸ hk), fun e => d5 (e ▸ hk), fun e => f2 k e k hk rfl⟩⟩
theorem upL_bl3 (L : List Pl) (s : Nat) (g : Oc → Oc) : (upL L s g).flatMap Pl.bl3 = L.flatMap Pl.bl3 := by
  unfold upL
  rw [List.flatMap_map]
  congr 1
  funext q
  split <;> rfl
theorem upL_ptr (L : List Pl) (s : Nat) (g : Oc → Oc) : (upL L s g).map Pl.ptr = L.map Pl.ptr := by
  unfold upL
  rw [List.map_map]
  apply List.map_congr_left
  intro q _
  simp only [Function.comp]
  split <;> rfl
theorem upL_len (L : List Pl) (s : Nat) (g : Oc → Oc) : (upL L s g).length = L.length := by simp [upL]
theorem upL_rBl (rb ra rc rt : Nat) (lv : Value) (L : List Pl) (s : Nat) (g : Oc → Oc) : rBl rb ra rc rt lv (upL L s g) = rBl rb ra rc rt lv L := by
  unfold rBl
  rw [upL_bl3]
theorem RX.upd (x : RX w rb ra rc rt lv h M) {s : Nat} {p : Pl} (hg : getP M s = some p) (g : Oc → Oc) (hk : Kept w w' S) (hS : ∀ k, S k → k = p.pb ∨ k = p.rb ∨ k = p.vb)
    (hb : Row w' p.pb 66 (Pl.cells { p with o := g p.o })) (hr : Row w' p.rb 51 (idsV (g p.o).rf)) (hv : Row w' p.vb 39 ((g p.o).vl.map uV)) (hok : HSt.Ok { h with cs := updC h.cs s g }) :
    RX w' rb ra rc rt lv { h with cs := updC h.cs s g } (upL M s g) := by
  obtain ⟨hp, hps⟩ := getP_mem hg
  obtain ⟨⟨a1, a2, a3, a4, a5, a6⟩, n2, n3, n4⟩ := rnd_parts x.nd
  have m1 := n4 p.pb (mem3 hp (by simp [Pl.bl3]))
  have m2 := n4 p.rb (mem3 hp (by simp [Pl.bl3]))
  have m3 := n4 p.vb (mem3 hp (by simp [Pl.bl3]))
  have hn : ∀ k, k = rb ∨ k = ra ∨ k = rc ∨ k = rt → ¬ S k := fun k hk e => by
    have := hS k e
    omega
  refine ⟨x.box.kept hk (hn _ (Or.inl rfl)), x.ar.kept hk (hn _ (by omega)) (hn _ (by omega)) (hn _ (by omega)), ?_, fun q hq => ?_, by rw [upL_rBl]; exact x.nd, by rw [upL_cs, x.cs], hok⟩
  · rw [upL_len, upL_ptr]
    refine own_kept x.ls hk (fun k e hSk => ?_)
    rcases hS k hSk with e2 | e2 | e2
    · exact m1.2.2.2.2 (e2 ▸ e)
    · exact m2.2.2.2.2 (e2 ▸ e)
    · exact m3.2.2.2.2 (e2 ▸ e)
  · rcases upL_mem hq with ⟨h1, h2⟩ | ⟨p', h1, h2, rfl⟩
    · have hap := bl3_ne n3 h1 hp (by rw [hps]; exact h2)
      have hnn : ∀ k ∈ q.bl3, ¬ S k := fun k hk e => by
        refine hap k hk ?_
        rcases hS k e with e | e | e <;> simp [Pl.bl3, e]
      exact ⟨(x.rows q h1).1.kept hk (hnn _ (by simp [Pl.bl3])), (x.rows q h1).2.1.kept hk (hnn _ (by simp [Pl.bl3])), (x.rows q h1).2.2.kept hk (hnn _ (by simp [Pl.bl3]))⟩
    · have : p' = p := pl_uniq x.srt h1 hp (by rw [h2, hps])
      subst this
      exact ⟨hb, hr, hv⟩
theorem RX.setR (x : RX w rb ra rc rt lv h M) {s : Nat} {p : Pl} (hg : getP M s = some p) (i : Nat) (y : Int × Nat) (hk : Kept w w' (fun k => k = p.rb)) (hr : Row w' p.rb 51 (idsV (p.o.rf.set i y))) :
    RX w' rb ra rc rt lv { h with cs := updC h.cs s (fun o => o.setR i y) } (upL M s (fun o => o.setR i y)) := by
  obtain ⟨hp, hps⟩ := getP_mem hg
  obtain ⟨_, _, n3, _⟩ := rnd_parts x.nd
  obtain ⟨o1, o2, o3⟩ := own3 n3 hp
  refine x.upd hg (fun o => o.setR i y) hk (fun k e => Or.inr (Or.inl e)) ?_ hr ((x.rows p hp).2.2.kept hk (by show ¬ (p.vb = p.rb); omega)) ?_
  · have : Pl.cells { p with o := p.o.setR i y } = p.cells := by simp [Pl.cells, Oc.setR]
    rw [this]
    exact (x.rows p hp).1.kept hk (by show ¬ (p.pb = p.rb); omega)
  · refine x.ok.upd s _ (fun o ho _ => ?_)
    have := x.ok.fl o ho
    simpa [Oc.setR] using this
theorem RX.setV (x : RX w rb ra rc rt lv h M) {s : Nat} {p : Pl} (hg : getP M s = some p) (i : Nat) (y : Nat) (hk : Kept w w' (fun k => k = p.vb)) (hr : Row w' p.vb 39 ((p.o.vl.set i y).map uV)) :
    RX w' rb ra rc rt lv { h with cs := updC h.cs s (fun o => o.setV i y) } (upL M s (fun o => o.setV i y)) := by
  obtain ⟨hp, hps⟩ := getP_mem hg
  obtain ⟨_, _, n3, _⟩ := rnd_parts x.nd
  obtain ⟨o1, o2, o3⟩ := own3 n3 hp
  refine x.upd hg (fun o => o.setV i y) hk (fun k e => Or.inr (Or.inr e)) ?_ ((x.rows p hp).2.1.kept hk (by show ¬ (p.rb = p.vb); omega)) hr ?_
  · have : Pl.cells { p with o := p.o.setV i y } = p.cells := by simp [Pl.cells, Oc.setV]
    rw [this]
    exact (x.rows p hp).1.kept hk (by show ¬ (p.pb = p.vb); omega)
  · refine x.ok.upd s _ (fun o ho _ => ?_)
    have := x.ok.fl o ho
    simpa [Oc.setV] using this
theorem RX.setD (x : RX w rb ra rc rt lv h M) {s : Nat} {p : Pl} (hg : getP M s = some p) (d : Nat) (hd : d ≤ 40) : RX (w.setCell ⟨p.pb, 4, none⟩ (.int .i64 (d : Int))) rb ra rc rt lv { h with cs := updC h.cs s (fun o => o.setD d) } (upL M s (fun o => o.setD d)) := by
  obtain ⟨hp, hps⟩ := getP_mem hg
  obtain ⟨_, _, n3, _⟩ := rnd_parts x.nd
  obtain ⟨o1, o2, o3⟩ := own3 n3 hp
  have hk : Kept w (w.setCell ⟨p.pb, 4, none⟩ (.int .i64 (d : Int))) (fun k => k = p.pb) := Kept.setCell _ _ _
  refine x.upd hg (fun o => o.setD d) hk (fun k e => Or.inl e) ?_ ((x.rows p hp).2.1.kept hk (by show ¬ (p.rb = p.pb); omega)) ((x.rows p hp).2.2.kept hk (by show ¬ (p.vb = p.pb); omega)) ?_
  · exact (x.rows p hp).1.set 4 _
  · refine x.ok.upd s _ (fun o ho _ => ?_)
    have := x.ok.fl o ho
    exact ⟨rfl, this.1, this.2.1, this.2.2.1, hd⟩
end

/-- The plain heap, and the blocks that are its. -/
structure RP (w : World) (rb : Nat) (F : Nat → Prop) (h : HSt) : Prop where
  ex : ∃ ra rc rt lv M, RX w rb ra rc rt lv h M ∧ ∀ k, F k ↔ k ∈ rBl rb ra rc rt lv M
structure RGoes (w w' : World) (rb : Nat) (F : Nat → Prop) (h' : HSt) : Prop where
  ex : ∃ F', RP w' rb F' h' ∧ ∀ k, F' k → F k ∨ w.heap.size ≤ k
  kept : Kept w w' F
section
variable {w w' : World} {rb ra rc rt ra' rc' rt' : Nat} {lv lv' : Value} {h h' : HSt} {M M' : List Pl} {F : Nat → Prop}
theorem RX.rp (x : RX w rb ra rc rt lv h M) : RP w rb (fun k => k ∈ rBl rb ra rc rt lv M) h := ⟨ra, rc, rt, lv, M, x, fun _ => Iff.rfl⟩
theorem RX.goes (x : RX w' rb ra' rc' rt' lv' h' M') (hk : Kept w w' F) (hs : ∀ k ∈ rBl rb ra' rc' rt' lv' M', F k ∨ w.heap.size ≤ k) : RGoes w w' rb F h' := ⟨⟨_, x.rp, hs⟩, hk⟩
theorem RP.ok (x : RP w rb F h) : h.Ok := by
  obtain ⟨ra, rc, rt, lv, M, hx, _⟩ := x.ex
  exact hx.ok
theorem RP.lt (x : RP w rb F h) : ∀ k, F k → k < w.heap.size := by
  obtain ⟨ra, rc, rt, lv, M, hx, hF⟩ := x.ex
  exact fun k hk => hx.lt k ((hF k).1 hk)
theorem RP.kept {S : Nat → Prop} (x : RP w rb F h) (hk : Kept w w' S) (hs : ∀ k, F k → ¬ S k) : RP w' rb F h := by
  obtain ⟨ra, rc, rt, lv, M, hx, hF⟩ := x.ex
  exact ⟨ra, rc, rt, lv, M, hx.kept hk (fun k hk => hs k ((hF k).2 hk)), hF⟩
theorem RP.below (x : RP w rb F h) (hB : Below w.heap.size w w') : RP w' rb F h := x.kept (kept_of_below hB (fun _ => False)) (fun _ _ => id)
theorem RP.stay (x : RP w rb F h) (hB : Below w.heap.size w w') : RGoes w w' rb F h := ⟨⟨F, x.below hB, fun _ hk => Or.inl hk⟩, kept_of_below hB _⟩
theorem RX.fit {F : Nat → Prop} (hF : ∀ k, F k ↔ k ∈ rBl rb ra rc rt lv M) (x : RGoes w w' rb (fun k => k ∈ rBl rb ra rc rt lv M) h') : RGoes w w' rb F h' := by
  have e : F = (fun k => k ∈ rBl rb ra rc rt lv M) := funext fun k => propext (hF k)
  rw [e]
  exact x
end

end Go.Proofs.YtdafpfdmnccelaaDoor

namespace Go.Proofs.YtdafpfdmnccelaaDoor
open Go.RowKit

def ptrOf (o : Option Pl) : Value := .pointer (o.map (fun p => ⟨p.pb, 0, none⟩))
theorem getP_first {M : List Pl} {s k : Nat} (hk : k < M.length) (h0 : ∀ p ∈ M.take k, p.o.s ≠ s) (h1 : M[k].o.s = s) : getP M s = some M[k] := by
  unfold getP
  rw [List.find?_eq_some_iff_getElem]
  refine ⟨by simpa using h1, k, hk, rfl, fun j hj => ?_⟩
  have : M[j] ∈ M.take k := by
    rw [List.mem_take_iff_getElem]
    exact ⟨j, by omega, rfl⟩
  simpa using h0 _ this
theorem getP_none {M : List Pl} {s : Nat} (h0 : ∀ p ∈ M, p.o.s ≠ s) : getP M s = none := by
  unfold getP
  rw [List.find?_eq_none]
  intro p hp
  simpa using h0 p hp
theorem take_pl {q : Pl → Prop} {M : List Pl} {k : Nat} (hk : k < M.length) (h0 : ∀ p ∈ M.take k, q p) (h : q M[k]) : ∀ p ∈ M.take (k + 1), q p := by
  intro p hp
  rw [List.take_succ_eq_append_getElem hk, List.mem_append] at hp
  rcases hp with hp | hp
  · exact h0 p hp
  · simp only [List.mem_singleton] at hp
    rw [hp]; exact h

section
variable {w : World} {rb ra rc rt : Nat} {lv : Value} {h : HSt} {M : List Pl}
set_option maxRecDepth 20000 in
set_option maxHeartbeats 1000000 in
theorem rget_any (x : RX w rb ra rc rt lv h M) (s : Nat) :
    Calls Tryd.prog 48 #[.pointer (some ⟨rb, 0, none⟩), .int .u64 (s : Int)] w fun e w' => e = .returned (ptrOf (getP M s)) ∧ w = w' := by
  have c4 := x.c4
  have hfew := x.few
  obtain ⟨ao, cap, hlv, hcap, _, _⟩ := x.slice
  go_enter Tryd.func48, Tryd.ntmps48
  go_wp2
  go_loop [5] (fun i => ∃ k : Nat, k ≤ M.length ∧ i = .int .i64 (k : Int) ∧ ∀ p ∈ M.take k, p.o.s ≠ s) (fun i => M.length - (intOf i).toNat)
  case atStart => exact ⟨0, Nat.zero_le _, rfl, by simp⟩
  case round =>
    obtain ⟨k, hk, rfl, h0⟩ := hrel
    by_cases hlt : (k : Int) < (M.length : Int)
    · have hkl : k < M.length := by omega
      obtain ⟨g, cap', hlv', hcap', hgl, hat⟩ := x.at k hkl
      rw [hlv'] at c4
      have hc := hat k hkl
      have hs := x.pc (List.getElem_mem hkl) 0 _ rfl
      have HK : Hid (k + 1 ≤ M.length) := by
        have e : k + 1 ≤ M.length := by omega
        exact e
      have HT : Hid (¬ M[k].o.s = s → ∀ p ∈ M.take (k + 1), p.o.s ≠ s) := fun e => take_pl (q := fun p => p.o.s ≠ s) hkl h0 e
      have HF : Hid (M[k].o.s = s → getP M s = some M[k]) := fun e => getP_first hkl h0 e
      clear hlv hlv' hat h0 x
      by_cases he : M[k].o.s = s
      · have hei : ((M[k].o.s : Int) == (s : Int)) = true := by rw [beq_iff_eq]; omega
        have HP : Hid _ := hidden (HF.out he)
        generalize M[k] = p at *
        clear he HF HT
        go_wp2
        go_ret
        rw [HP.out]
        exact ⟨rfl, rfl⟩
      · have hei : ((M[k].o.s : Int) == (s : Int)) = false := by rw [beq_eq_false_iff_ne]; omega
        have HT' : Hid _ := hidden (HT.out he)
        generalize M[k] = p at *
        clear he HF HT
        go_wp2
        go_round
        case rel => exact ⟨k + 1, HK.out, by go_num, HT'.out⟩
        case measure => have := HK.out; simp [intOf]; omega
    · have hG : Hid (getP M s = none) := by
        have e : getP M s = none := getP_none (fun p hp => h0 p (by rw [List.take_of_length_le (by omega)]; exact hp))
        exact e
      rw [hlv] at c4
      clear hlv x h0
      go_wp2
      go_ret
      rw [hG.out]
      exact ⟨rfl, rfl⟩

set_option maxRecDepth 20000 in
set_option maxHeartbeats 1000000 in
theorem rnext_any (x : RX w rb ra rc rt lv h M) (s : Nat) :
    Calls Tryd.prog 56 #[.pointer (some ⟨rb, 0, none⟩), .int .u64 (s : Int)] w fun e w' => e = .returned (.tuple #[.int .u64 ((nextR h.cs s).1 : Int), .bool (nextR h.cs s).2]) ∧ w = w' := by
  have c4 := x.c4
  have hfew := x.few
  obtain ⟨ao, cap, hlv, hcap, _, _⟩ := x.slice
  have hcs := x.cs
  have hsrt := x.ok.srt
  go_enter Tryd.func56, Tryd.ntmps56
  go_wp2
  go_loop [6] (fun i => ∃ k : Nat, k ≤ M.length ∧ i = .int .i64 (k : Int) ∧ ∀ p ∈ M.take k, p.o.s ≤ s) (fun i => M.length - (intOf i).toNat)
  case atStart => exact ⟨0, Nat.zero_le _, rfl, by simp⟩
  case round =>
    obtain ⟨k, hk, rfl, h0⟩ := hrel
    by_cases hlt : (k : Int) < (M.length : Int)
    · have hkl : k < M.length := by omega
      obtain ⟨g, cap', hlv', hcap', hgl, hat⟩ := x.at k hkl
      rw [hlv'] at c4
      have hc := hat k hkl
      have hs := x.pc (List.getElem_mem hkl) 0 _ rfl
      have HK : Hid (k + 1 ≤ M.length) := by
        have e : k + 1 ≤ M.length := by omega
        exact e
      have HT : Hid (M[k].o.s ≤ s → ∀ p ∈ M.take (k + 1), p.o.s ≤ s) := fun e => take_pl (q := fun p => p.o.s ≤ s) hkl h0 e
      have HF : Hid (s < M[k].o.s → nextR h.cs s = (M[k].o.s, true)) := fun e => by
        refine nextR_some hsrt (by rw [← hcs]; exact List.mem_map.2 ⟨_, List.getElem_mem hkl, rfl⟩) e (fun q hq hq' => ?_)
        rw [← hcs] at hq
        obtain ⟨p, hp, rfl⟩ := List.mem_map.1 hq
        obtain ⟨j, hj, rfl⟩ := List.mem_iff_getElem.1 hp
        by_cases hjk : j < k
        · have := h0 M[j] (by rw [List.mem_take_iff_getElem]; exact ⟨j, by omega, rfl⟩)
          omega
        · by_cases e2 : j = k
          · subst e2; exact Nat.le_refl _
          · have hp2 := x.srt
            rw [List.pairwise_map, List.pairwise_iff_getElem] at hp2
            exact Nat.le_of_lt (hp2 k j hkl hj (by omega))
      clear hlv hlv' hat h0 x hcs hsrt
      by_cases he : s < M[k].o.s
      · have hei : (s : Int) < (M[k].o.s : Int) := by omega
        have HP : Hid _ := hidden (HF.out he)
        generalize M[k] = p at *
        clear he HF HT
        go_wp2
        go_ret2
        rw [HP.out]
        exact ⟨rfl, rfl⟩
      · have hei : ¬ (s : Int) < (M[k].o.s : Int) := by omega
        have HT' : Hid _ := hidden (HT.out (by omega))
        generalize M[k] = p at *
        clear he HF HT
        go_wp2
        go_round
        case rel => exact ⟨k + 1, HK.out, by go_num, HT'.out⟩
        case measure => have := HK.out; simp [intOf]; omega
    · have hG : Hid (nextR h.cs s = (0, false)) := by
        have e : nextR h.cs s = (0, false) := nextR_none (fun o ho => by
          rw [← hcs] at ho
          obtain ⟨p, hp, rfl⟩ := List.mem_map.1 ho
          exact h0 p (by rw [List.take_of_length_le (by omega)]; exact hp))
        exact e
      rw [hlv] at c4
      clear hlv x h0 hcs hsrt
      go_wp2
      go_ret2
      rw [hG.out]
      exact ⟨rfl, rfl⟩
end

end Go.Proofs.YtdafpfdmnccelaaDoor

namespace Go.Proofs.YtdafpfdmnccelaaDoor
open Go.RowKit

set_option maxRecDepth 20000 in
set_option maxHeartbeats 400000 in
theorem rid_any (a : Int) (n : Nat) (w : World) :
    Calls Tryd.prog 44 #[.agg #[.int .i64 a, .int .u64 (n : Int)]] w fun e w' => e = .returned (.bool (rightI (a, n))) ∧ Below w.heap.size w w' := by
  by_cases hz : a = 0
  · subst hz
    have e : rightI (0, n) = ((n : Int) == 0) := by
      by_cases hn : n = 0
      · subst hn; rfl
      · rw [rightI_no (by omega) (by omega)]
        symm
        rw [beq_eq_false_iff_ne]
        omega
    rw [e]
    go_enter Tryd.func44, Tryd.ntmps44
    go_wp2
    go_ret
    exact ⟨rfl, (Below.refl _ _).alloc (Nat.le_refl _) _⟩
  have hzi : (a == 0) = false := by rw [beq_eq_false_iff_ne]; exact hz
  have hz' : ¬ (a = 0 ∧ n = 0) := fun e => hz e.1
  by_cases h1 : 1 ≤ a
  · by_cases h1' : a ≤ 64
    · by_cases h2 : 1 ≤ n
      · have h2i : (1 : Int) ≤ (n : Int) := by omega
        by_cases h3 : n ≤ 72057594037927935
        · have h3i : (n : Int) ≤ 72057594037927935 := by omega
          rw [rightI_yes (Or.inr ⟨h1, h1', h2, h3⟩)]
          clear h2 h3 hz hz'
          go_enter Tryd.func44, Tryd.ntmps44
          go_wp2
          go_ret
          exact ⟨rfl, (Below.refl _ _).alloc (Nat.le_refl _) _⟩
        · have h3i : decide ((n : Int) ≤ 72057594037927935) = false := decide_eq_false (by omega)
          rw [rightI_no hz' (fun e => h3 e.2.2.2)]
          clear h2 h3 hz hz'
          go_enter Tryd.func44, Tryd.ntmps44
          go_wp2
          go_ret
          exact ⟨rfl, (Below.refl _ _).alloc (Nat.le_refl _) _⟩
      · have h2i : decide ((1 : Int) ≤ (n : Int)) = false := decide_eq_false (by omega)
        rw [rightI_no hz' (fun e => h2 e.2.2.1)]
        clear h2 hz hz'
        go_enter Tryd.func44, Tryd.ntmps44
        go_wp2
        go_ret
        exact ⟨rfl, (Below.refl _ _).alloc (Nat.le_refl _) _⟩
    · have h1d : decide (a ≤ 64) = false := decide_eq_false h1'
      rw [rightI_no hz' (fun e => h1' e.2.1)]
      clear hz hz' h1'
      go_enter Tryd.func44, Tryd.ntmps44
      go_wp2
      go_ret
      exact ⟨rfl, (Below.refl _ _).alloc (Nat.le_refl _) _⟩
  · have h1d : decide (1 ≤ a) = false := decide_eq_false h1
    rw [rightI_no hz' (fun e => h1 e.1)]
    clear hz hz' h1
    go_enter Tryd.func44, Tryd.ntmps44
    go_wp2
    go_ret
    exact ⟨rfl, (Below.refl _ _).alloc (Nat.le_refl _) _⟩

section
variable {w : World} {rb ra rc rt : Nat} {lv : Value} {h : HSt} {M : List Pl}
set_option maxRecDepth 20000 in
set_option maxHeartbeats 1000000 in
theorem rref_any (x : RX w rb ra rc rt lv h M) (s : Nat) (f : Int) :
    Calls Tryd.prog 65 #[.pointer (some ⟨rb, 0, none⟩), .int .u64 (s : Int), .int .i64 f] w fun e w' => e = .returned (.tuple #[.agg #[.int .i64 (refR h.cs s f).1.1, .int .u64 ((refR h.cs s f).1.2 : Int)], .int .i64 ((refR h.cs s f).2 : Int)]) ∧ Below w.heap.size w w' := by
  have hA : Below w.heap.size w (w.alloc (.cells #[.int .i64 0, .int .u64 0] 51)) := (Below.refl _ _).alloc (Nat.le_refl _) _
  have x1 := x.below hA
  have hG := rget_any x1 s
  unfold ptrOf at hG
  cases hg : getP M s with
  | none =>
    rw [refR_no (fun o ho => by rw [x.get, hg] at ho; cases ho)]
    rw [hg] at hG
    simp only [Option.map_none] at hG
    go_enter Tryd.func65, Tryd.ntmps65
    go_wp2_with (go_at_call 48; refine hG.mono ?_; rintro e _ ⟨rfl, rfl⟩)
    refine bodyPost_ret (v := .tuple #[.agg #[.int .i64 0, .int .u64 0], .int .i64 5]) (by simp [results, Tryd.results65, go_sem, *]) rfl ⟨rfl, ?_⟩
    exact (Below.refl _ _).alloc (Nat.le_refl _) _
  | some p =>
    have hp := (getP_mem hg).1
    have hgc : getC h.cs s = some p.o := by rw [x.get, hg]; rfl
    rw [hg] at hG
    simp only [Option.map_some] at hG
    have d2 := x1.pc hp 2 _ rfl
    have hfl := (x.fl hp).1
    by_cases hf : f < 0
    · rw [refR_no (fun o ho => by rw [hgc] at ho; cases ho; exact Or.inl hf)]
      generalize p.o.rf.length = n at *
      go_enter Tryd.func65, Tryd.ntmps65
      go_wp2_with (go_at_call 48; refine hG.mono ?_; rintro e _ ⟨rfl, rfl⟩)
      refine bodyPost_ret (v := .tuple #[.agg #[.int .i64 0, .int .u64 0], .int .i64 5]) (by simp [results, Tryd.results65, go_sem, *]) rfl ⟨rfl, ?_⟩
      exact (Below.refl _ _).alloc (Nat.le_refl _) _
    by_cases hf2 : (p.o.rf.length : Int) ≤ f
    · rw [refR_no (fun o ho => by rw [hgc] at ho; cases ho; exact Or.inr hf2)]
      generalize p.o.rf.length = n at *
      go_enter Tryd.func65, Tryd.ntmps65
      go_wp2_with (go_at_call 48; refine hG.mono ?_; rintro e _ ⟨rfl, rfl⟩)
      refine bodyPost_ret (v := .tuple #[.agg #[.int .i64 0, .int .u64 0], .int .i64 5]) (by simp [results, Tryd.results65, go_sem, *]) rfl ⟨rfl, ?_⟩
      exact (Below.refl _ _).alloc (Nat.le_refl _) _
    · obtain ⟨i, rfl⟩ : ∃ i : Nat, f = (i : Int) := ⟨f.toNat, by omega⟩
      have hi : i < p.o.rf.length := by omega
      rw [refR_ok hgc hi]
      obtain ⟨r0, r1⟩ := x1.rc' hp i hi
      have hii : (i : Int) < (p.o.rf.length : Int) := by omega
      generalize p.o.rf[i] = y at *
      generalize p.o.rf.length = n at *
      clear hf2 hf
      go_enter Tryd.func65, Tryd.ntmps65
      go_wp2_with (go_at_call 48; refine hG.mono ?_; rintro e _ ⟨rfl, rfl⟩)
      refine bodyPost_ret (v := .tuple #[.agg #[.int .i64 y.1, .int .u64 (y.2 : Int)], .int .i64 0]) (by simp [results, Tryd.results65, go_sem, *]) rfl ⟨rfl, ?_⟩
      exact (Below.refl _ _).alloc (Nat.le_refl _) _

theorem valR_some (x : RX w rb ra rc rt lv h M) {s : Nat} {f : Int} (hE : (valR h.cs s f).2 = 0) : ∃ p i, getP M s = some p ∧ f = (i : Nat) ∧ i < p.o.vl.length := by
  unfold valR at hE
  rw [x.get] at hE
  cases hg : getP M s with
  | none => rw [hg] at hE; cases hE
  | some p =>
    rw [hg] at hE
    simp only [Option.map_some] at hE
    split at hE
    · next hf => exact ⟨p, f.toNat, rfl, by omega, by omega⟩
    · cases hE
theorem rrefR_some (x : RX w rb ra rc rt lv h M) {s : Nat} {f : Int} (hE : (refR h.cs s f).2 = 0) : ∃ p i, getP M s = some p ∧ f = (i : Nat) ∧ i < p.o.rf.length := by
  unfold refR at hE
  rw [x.get] at hE
  cases hg : getP M s with
  | none => rw [hg] at hE; cases hE
  | some p =>
    rw [hg] at hE
    simp only [Option.map_some] at hE
    split at hE
    · next hf => exact ⟨p, f.toNat, rfl, by omega, by omega⟩
    · cases hE
theorem kept_r {w' : World} {k0 : Nat} (hk : Kept w w' (fun k => k = k0)) (hm : k0 ∈ rBl rb ra rc rt lv M) : Kept w w' (fun k => k ∈ rBl rb ra rc rt lv M) :=
  hk.mono (fun k _ e => by have e' : k = k0 := e; rw [e']; exact hm)
end

end Go.Proofs.YtdafpfdmnccelaaDoor

namespace Go.Proofs.YtdafpfdmnccelaaDoor
open Go.RowKit

section
variable {w : World} {rb ra rc rt : Nat} {lv : Value} {h : HSt} {M : List Pl}
set_option maxRecDepth 20000 in
set_option maxHeartbeats 1000000 in
theorem rsetin_any (x : RX w rb ra rc rt lv h M) (s : Nat) (d : Int) :
    Calls Tryd.prog 34 #[.pointer (some ⟨rb, 0, none⟩), .int .u64 (s : Int), .int .i64 d] w fun e w' => e = .returned (.int .i64 (h.setInR s d : Int)) ∧ RGoes w w' rb (fun k => k ∈ rBl rb ra rc rt lv M) (h.setInS s d) := by
  have hG := rget_any x s
  unfold ptrOf at hG
  unfold HSt.setInR HSt.setInS
  by_cases hd0 : d < 0
  · rw [if_neg (by omega), if_neg (by omega)]
    go_enter Tryd.func34, Tryd.ntmps34
    go_wp2
    go_ret
    exact ⟨rfl, x.goes (Kept.refl _ _) (fun k hk => Or.inl hk)⟩
  by_cases hd1 : 40 < d
  · rw [if_neg (by omega), if_neg (by omega)]
    go_enter Tryd.func34, Tryd.ntmps34
    go_wp2
    go_ret
    exact ⟨rfl, x.goes (Kept.refl _ _) (fun k hk => Or.inl hk)⟩
  rw [if_pos (by omega)]
  cases hg : getP M s with
  | none =>
    have hgc : getC h.cs s = none := by rw [x.get, hg]; rfl
    rw [hgc, if_neg (by simp), if_neg (by simp)]
    rw [hg] at hG
    simp only [Option.map_none] at hG
    go_enter Tryd.func34, Tryd.ntmps34
    go_wp2_with (go_at_call 48; refine hG.mono ?_; rintro e _ ⟨rfl, rfl⟩)
    go_ret
    exact ⟨rfl, x.goes (Kept.refl _ _) (fun k hk => Or.inl hk)⟩
  | some p =>
    have hp := (getP_mem hg).1
    have hgc : getC h.cs s = some p.o := by rw [x.get, hg]; rfl
    obtain ⟨j, rfl⟩ : ∃ j : Nat, d = (j : Int) := ⟨d.toNat, by omega⟩
    rw [hgc, if_pos (by simp), if_pos (by simp; omega)]
    simp only [Int.toNat_natCast]
    rw [hg] at hG
    simp only [Option.map_some] at hG
    have d4 := x.pc hp 4 _ rfl
    have f4 := (x.rows p hp).1.frozen 4
    have HX' : Hid _ := hidden (x.setD hg j (by omega))
    have HM : Hid (p.pb ∈ rBl rb ra rc rt lv M) := hidden (memR hp (by simp [Pl.bl3]))
    go_enter Tryd.func34, Tryd.ntmps34
    go_wp2_with (go_at_call 48; refine hG.mono ?_; rintro e _ ⟨rfl, rfl⟩)
    go_ret
    exact ⟨rfl, HX'.out.goes (kept_r (Kept.setCell _ _ _) HM.out) (fun k hk => Or.inl (by rw [upL_rBl] at hk; exact hk))⟩

theorem rgoes_ref (x : RX w rb ra rc rt lv h M) {s : Nat} {p : Pl} (hg : getP M s = some p) {W W' : World} (hW : Below w.heap.size w W) (i : Nat) (hi : i < p.o.rf.length) (a : Int) (n : Nat)
    (hk : Kept ((W.setCell ⟨p.rb, i * 2, none⟩ (.int .i64 a)).setCell ⟨p.rb, i * 2 + 1, none⟩ (.int .u64 (n : Int))) W' (fun k => w.heap.size ≤ k)) : RGoes w W' rb (fun k => k ∈ rBl rb ra rc rt lv M) { h with cs := updC h.cs s (fun o => o.setR i (a, n)) } := by
  obtain ⟨hp, _⟩ := getP_mem hg
  have xw := x.below hW
  have k1 : Kept W ((W.setCell ⟨p.rb, i * 2, none⟩ (.int .i64 a)).setCell ⟨p.rb, i * 2 + 1, none⟩ (.int .u64 (n : Int))) (fun k => k = p.rb) := (Kept.setCell W ⟨p.rb, i * 2, none⟩ _).trans (Kept.setCell _ ⟨p.rb, i * 2 + 1, none⟩ _) (fun _ _ e => e)
  have x1 := xw.setR hg i (a, n) k1 (by rw [← idsV_set _ _ hi]; exact ((xw.rows p hp).2.1.set _ _).set _ _)
  have hlt := x.lt
  refine (x1.kept hk (fun k hk => ?_)).goes (((kept_of_below hW _).trans (kept_r k1 (memR hp (by simp [Pl.bl3]))) (fun _ _ e => e)).trans hk (fun k h1 h2 => by have h2' : w.heap.size ≤ k := h2; omega)) (fun k hk => Or.inl (by rw [upL_rBl] at hk; exact hk))
  rw [upL_rBl] at hk
  have := hlt k hk
  show ¬ (w.heap.size ≤ k)
  omega

set_option maxRecDepth 20000 in
set_option maxHeartbeats 1000000 in
theorem rsetref_any (x : RX w rb ra rc rt lv h M) (s : Nat) (f : Int) (a : Int) (n : Nat) :
    Calls Tryd.prog 31 #[.pointer (some ⟨rb, 0, none⟩), .int .u64 (s : Int), .int .i64 f, .agg #[.int .i64 a, .int .u64 (n : Int)]] w fun e w' => e = .returned (.tuple #[.agg #[.int .i64 (h.setRefR s f (a, n)).1.1, .int .u64 ((h.setRefR s f (a, n)).1.2 : Int)], .int .i64 ((h.setRefR s f (a, n)).2 : Int)]) ∧ RGoes w w' rb (fun k => k ∈ rBl rb ra rc rt lv M) (h.setRefS s f (a, n)) := by
  have hR := fun w => rid_any a n w
  have hA : Below w.heap.size w ((w.alloc (.cells #[.int .i64 a, .int .u64 (n : Int)] 51)).alloc (.cells #[.int .i64 0, .int .u64 0] 51)) := ((Below.refl _ _).alloc (Nat.le_refl _) _).alloc (by simp) _
  unfold HSt.setRefR HSt.setRefS
  by_cases hr : rightI (a, n) = true
  · rw [if_pos hr]
    rw [hr] at hR
    have hRef := fun W (hW : Below w.heap.size w W) => rref_any (x.below hW) s f
    by_cases hE : (refR h.cs s f).2 = 0
    · rw [if_pos ⟨hr, hE⟩]
      obtain ⟨p, i, hg, rfl, hi⟩ := rrefR_some x hE
      have hp := (getP_mem hg).1
      rw [refR_ok (by rw [x.get, hg]; rfl) hi] at hRef ⊢
      clear hE hr
      have hGt : ∀ W, Below w.heap.size w W → Calls Tryd.prog 48 #[.pointer (some ⟨rb, 0, none⟩), .int .u64 (s : Int)] W fun e w' => e = .returned (.pointer (some ⟨p.pb, 0, none⟩)) ∧ W = w' := fun W hW => by
        have := rget_any (x.below hW) s
        unfold ptrOf at this
        rw [hg] at this
        exact this
      have hfl := (x.fl hp).1
      have hii : (i : Int) < (p.o.rf.length : Int) := by omega
      have hd2 := fun W (hW : Below w.heap.size w W) => (x.below hW).pc hp 2 _ rfl
      have hrc := fun W (hW : Below w.heap.size w W) => (x.below hW).rc' hp i hi
      have hfz := fun W (hW : Below w.heap.size w W) => ((x.below hW).rows p hp).2.1.frozen
      have hrl := (x.rows p hp).2.1.lt
      have HGo : Hid (∀ W W', Below w.heap.size w W → Kept ((W.setCell ⟨p.rb, i * 2, none⟩ (.int .i64 a)).setCell ⟨p.rb, i * 2 + 1, none⟩ (.int .u64 (n : Int))) W' (fun k => w.heap.size ≤ k) → RGoes w W' rb (fun k => k ∈ rBl rb ra rc rt lv M) { h with cs := updC h.cs s (fun o => o.setR i (a, n)) }) := fun W W' hW hk => rgoes_ref x hg hW i hi a n hk
      simp only [Int.toNat_natCast]
      generalize p.o.rf[i] = z at *
      generalize p.o.rf.length = m at *
      go_enter Tryd.func31, Tryd.ntmps31
      go_wp2_with (first
        | (go_at_call 44; refine (hR _).mono ?_; rintro e w2 ⟨rfl, hb2⟩; have hB2 := hA.trans (hb2.mono (by simp; omega)))
        | (go_at_call 65; refine (hRef _ hB2).mono ?_; rintro e w3 ⟨rfl, hb3⟩; have hB3 := hB2.trans (hb3.mono hB2.size); obtain ⟨z3, q0, q1, q2, q3, q4⟩ := two_blocks (hb2.trans (hb3.mono hb2.size)); have l4 := fun o => hGt _ (hB3.alloc hB3.size o).drew; have d4 := fun o => hd2 _ (hB3.alloc hB3.size o); have r4 := fun o => (hrc _ (hB3.alloc hB3.size o)).1; have r5 := fun o => (hrc _ (hB3.alloc hB3.size o)).2; have z4 := fun o => hfz _ (hB3.alloc hB3.size o); have z5 : w.heap.size < w3.heap.size := by { omega }; have z6 : p.rb < w3.heap.size := by { omega }))
      go_region_with (go_at_call 48; refine (l4 _).mono ?_; rintro e _ ⟨rfl, rfl⟩)
      all_goals
        go_wp2
        refine bodyPost_ret (v := .tuple #[.agg #[.int .i64 z.1, .int .u64 (z.2 : Int)], .int .i64 0]) (by simp [results, Tryd.results31, go_sem, *]) rfl ⟨rfl, HGo.out w3 _ hB3 (kept_far _ _ _ (Nat.le_succ _) _ _ _)⟩
    · rw [if_neg (fun e => hE e.2)]
      generalize refR h.cs s f = v at *
      have hEi : ((v.2 : Int) == 0) = false := by rw [beq_eq_false_iff_ne]; omega
      clear hE hr
      have hx := x.rp
      go_enter Tryd.func31, Tryd.ntmps31
      go_wp2_with (first
        | (go_at_call 44; refine (hR _).mono ?_; rintro e w2 ⟨rfl, hb2⟩; have hB2 := hA.trans (hb2.mono (by simp; omega)))
        | (go_at_call 65; refine (hRef _ hB2).mono ?_; rintro e w3 ⟨rfl, hb3⟩; have hB3 := hB2.trans (hb3.mono hB2.size); obtain ⟨z3, q0, q1, q2, q3, q4⟩ := two_blocks (hb2.trans (hb3.mono hb2.size))))
      refine bodyPost_ret (v := .tuple #[.agg #[.int .i64 v.1.1, .int .u64 (v.1.2 : Int)], .int .i64 (v.2 : Int)]) (by simp [results, Tryd.results31, go_sem, *]) rfl ⟨rfl, hx.stay (((hB3.setCell (Nat.le_succ _) _).setCell (Nat.le_succ _) _).alloc (by simpa using hB3.size) _)⟩
  · rw [if_neg hr, if_neg (fun e => hr e.1)]
    rw [show rightI (a, n) = false by simpa using hr] at hR
    clear hr
    go_enter Tryd.func31, Tryd.ntmps31
    go_wp2_with (go_at_call 44; refine (hR _).mono ?_; rintro e w2 ⟨rfl, hb2⟩; have hB2 := hA.trans (hb2.mono (by simp; omega)); obtain ⟨z3, q0, q1, q2, q3, q4⟩ := two_blocks hb2)
    refine bodyPost_ret (v := .tuple #[.agg #[.int .i64 0, .int .u64 0], .int .i64 1]) (by simp [results, Tryd.results31, go_sem, *]) rfl ⟨rfl, x.rp.stay ((hB2.setCell (Nat.le_succ _) _).setCell (Nat.le_succ _) _)⟩
end

end Go.Proofs.YtdafpfdmnccelaaDoor

namespace Go.Proofs.YtdafpfdmnccelaaDoor
open Go.RowKit

theorem rnd_mk {rb ra rc rt : Nat} {lv : Value} {M : List Pl} (h1 : rb ≠ ra ∧ rb ≠ rc ∧ rb ≠ rt ∧ ra ≠ rc ∧ ra ≠ rt ∧ rc ≠ rt) (h2 : ∀ k, lv.ownBlock = some k → k ≠ rb ∧ k ≠ ra ∧ k ≠ rc ∧ k ≠ rt) (h3 : (M.flatMap Pl.bl3).Nodup) (h4 : ∀ k ∈ M.flatMap Pl.bl3, k ≠ rb ∧ k ≠ ra ∧ k ≠ rc ∧ k ≠ rt ∧ lv.ownBlock ≠ some k) : (rBl rb ra rc rt lv M).Nodup := by
  unfold rBl
  simp only [List.nodup_cons, List.mem_cons, List.mem_append, not_or, List.nodup_append, Option.mem_toList]
  obtain ⟨a1, a2, a3, a4, a5, a6⟩ := h1
  refine ⟨⟨a1, a2, a3, fun e => (h2 _ e).1 rfl, fun e => (h4 _ e).1 rfl⟩, ⟨a4, a5, fun e => (h2 _ e).2.1 rfl, fun e => (h4 _ e).2.1 rfl⟩, ⟨a6, fun e => (h2 _ e).2.2.1 rfl, fun e => (h4 _ e).2.2.1 rfl⟩, ⟨fun e => (h2 _ e).2.2.2 rfl, fun e => (h4 _ e).2.2.2.1 rfl⟩, ?_, h3, fun a ha b hb e => (h4 b hb).2.2.2.2 (e ▸ ha)⟩
  cases lv.ownBlock <;> simp

section
variable {w w1 W4 : World} {rb ra rc rt : Nat} {lv : Value} {h : HSt} {M : List Pl}
/-- Behind the arena gave a cell, the serial rose, and the object was laid. -/
theorem RX.makes (x : RX w rb ra rc rt lv h M) (r v : Nat) (hE : (h.makeR (r : Int) (v : Int)).2 = 0) (ha : RA w1 ra rc rt (allocL h.bs (1 + r + v))) (k1 : Kept w w1 (fun k => k = rc ∨ k = rt)) (kW : Kept w1 W4 (fun k => k = rb))
    (b4 : Row W4 rb 58 [.int .i64 (h.node : Int), .int .i64 (h.most : Int), .int .u64 ((h.last + 1 : Nat) : Int), .pointer (some ⟨ra, 0, none⟩), lv]) (p : Pl) (hpo : p.o = h.newO r v)
    (r1 : Row W4 p.pb 66 p.cells) (r2 : Row W4 p.rb 51 (idsV p.o.rf)) (r3 : Row W4 p.vb 39 (p.o.vl.map uV)) (g1 : w1.heap.size ≤ p.pb) (g2 : w1.heap.size ≤ p.rb) (g3 : w1.heap.size ≤ p.vb) (g4 : p.pb ≠ p.rb ∧ p.pb ≠ p.vb ∧ p.rb ≠ p.vb) :
    W4.ownsRow 0 67 1 lv M.length (M.map Pl.ptr) ∧ ∀ v' w', w'.ownsRow 0 67 1 v' (M.length + 1) (M.map Pl.ptr ++ [p.ptr]) → Kept W4 w' (fun k => lv.ownBlock = some k) → Moved W4 lv v' →
      Row w' rb 58 [.int .i64 (h.node : Int), .int .i64 (h.most : Int), .int .u64 ((h.last + 1 : Nat) : Int), .pointer (some ⟨ra, 0, none⟩), lv] ∧ RGoes w (w'.setCell ⟨rb, 4, none⟩ v') rb (fun k => k ∈ rBl rb ra rc rt lv M) (h.makeS (r : Int) (v : Int)) := by
  obtain ⟨a, n2, n3, n4⟩ := rnd_parts x.nd
  obtain ⟨a1, a2, a3, a4, a5, a6⟩ := a
  have hlt := x.lt
  have hs1 := k1.size
  have hs4 := kW.size
  have hrb := hlt rb (by simp [rBl])
  have hra := hlt ra (by simp [rBl])
  have hrc := hlt rc (by simp [rBl])
  have hrt := hlt rt (by simp [rBl])
  have hlvl : ∀ k, lv.ownBlock = some k → k < w.heap.size := fun k e => x.lsLt e
  have own4 : W4.ownsRow 0 67 1 lv M.length (M.map Pl.ptr) := own_kept (own_kept x.ls k1 (fun k e => by have := n2 k e; show ¬ (k = rc ∨ k = rt); omega)) kW (fun k e => by have := n2 k e; show ¬ (k = rb); omega)
  refine ⟨own4, fun v' w' ho' hk' hm' => ?_⟩
  have b5 : Row w' rb 58 [.int .i64 (h.node : Int), .int .i64 (h.most : Int), .int .u64 ((h.last + 1 : Nat) : Int), .pointer (some ⟨ra, 0, none⟩), lv] := b4.kept hk' (fun e => (n2 rb e).1 rfl)
  refine ⟨b5, ?_⟩
  have kS := Kept.setCell w' ⟨rb, 4, none⟩ v'
  have l1 := r1.lt
  have l2 := r2.lt
  have l3 := r3.lt
  have hv' : ∀ k, v'.ownBlock = some k → k ≠ rb ∧ k ≠ ra ∧ k ≠ rc ∧ k ≠ rt := fun k e => by
    rcases hm' k e with e | e
    · exact n2 k e
    · omega
  have hs : h.makeS (r : Int) (v : Int) = { h with last := h.last + 1, bs := allocL h.bs (1 + r + v), cs := h.cs ++ [h.newO r v] } := by
    unfold HSt.makeS
    rw [if_pos hE]
  have hflat : (M ++ [p]).flatMap Pl.bl3 = M.flatMap Pl.bl3 ++ [p.pb, p.rb, p.vb] := by
    rw [List.flatMap_append]
    simp [Pl.bl3]
  have hMlt : ∀ k ∈ M.flatMap Pl.bl3, k < w.heap.size := fun k hk => hlt k (by simp only [rBl, List.mem_cons, List.mem_append]; exact Or.inr (Or.inr (Or.inr (Or.inr (Or.inr hk)))))
  have x' : RX (w'.setCell ⟨rb, 4, none⟩ v') rb ra rc rt v' (h.makeS (r : Int) (v : Int)) (M ++ [p]) := by
    refine ⟨?_, ?_, ?_, fun q hq => ?_, ?_, ?_, x.ok.make _ _⟩
    · rw [hs]
      exact b5.set 4 v'
    · rw [hs]
      exact ((ha.kept kW (by show ¬ (ra = rb); omega) (by show ¬ (rc = rb); omega) (by show ¬ (rt = rb); omega)).kept hk' (fun e => (n2 ra e).2.1 rfl) (fun e => (n2 rc e).2.2.1 rfl) (fun e => (n2 rt e).2.2.2 rfl)).kept kS (by show ¬ (ra = rb); omega) (by show ¬ (rc = rb); omega) (by show ¬ (rt = rb); omega)
    · rw [List.length_append, List.map_append]
      exact own_kept ho' kS (fun k e => by have := hv' k e; show ¬ (k = rb); omega)
    · rcases List.mem_append.1 hq with hq | hq
      · have m1 := n4 q.pb (mem3 hq (by simp [Pl.bl3]))
        have m2 := n4 q.rb (mem3 hq (by simp [Pl.bl3]))
        have m3 := n4 q.vb (mem3 hq (by simp [Pl.bl3]))
        exact ⟨((((x.rows q hq).1.kept k1 (by show ¬ (q.pb = rc ∨ q.pb = rt); omega)).kept kW (by show ¬ (q.pb = rb); omega)).kept hk' m1.2.2.2.2).kept kS (by show ¬ (q.pb = rb); omega),
          ((((x.rows q hq).2.1.kept k1 (by show ¬ (q.rb = rc ∨ q.rb = rt); omega)).kept kW (by show ¬ (q.rb = rb); omega)).kept hk' m2.2.2.2.2).kept kS (by show ¬ (q.rb = rb); omega),
          ((((x.rows q hq).2.2.kept k1 (by show ¬ (q.vb = rc ∨ q.vb = rt); omega)).kept kW (by show ¬ (q.vb = rb); omega)).kept hk' m3.2.2.2.2).kept kS (by show ¬ (q.vb = rb); omega)⟩
      · rw [List.mem_singleton] at hq
        subst hq
        exact ⟨(r1.kept hk' (fun e => by have := hlvl _ e; omega)).kept kS (by show ¬ (q.pb = rb); omega), (r2.kept hk' (fun e => by have := hlvl _ e; omega)).kept kS (by show ¬ (q.rb = rb); omega), (r3.kept hk' (fun e => by have := hlvl _ e; omega)).kept kS (by show ¬ (q.vb = rb); omega)⟩
    · refine rnd_mk ⟨a1, a2, a3, a4, a5, a6⟩ hv' ?_ (fun k hk => ?_)
      · rw [hflat, List.nodup_append]
        refine ⟨n3, by simp; exact ⟨⟨g4.1, g4.2.1⟩, g4.2.2⟩, fun b hb c hc => ?_⟩
        have := hMlt b hb
        simp only [List.mem_cons, List.not_mem_nil, or_false] at hc
        omega
      · rw [hflat, List.mem_append] at hk
        rcases hk with hk | hk
        · have := n4 k hk
          have hkl := hMlt k hk
          refine ⟨this.1, this.2.1, this.2.2.1, this.2.2.2.1, fun e => ?_⟩
          rcases hm' k e with e | e
          · exact this.2.2.2.2 e
          · omega
        · simp only [List.mem_cons, List.not_mem_nil, or_false] at hk
          refine ⟨by omega, by omega, by omega, by omega, fun e => ?_⟩
          rcases hm' k e with e | e
          · have := hlvl k e
            omega
          · omega
    · rw [List.map_append, x.cs, hs]
      show h.cs ++ [p.o] = _
      rw [hpo]
  refine x'.goes (((k1.mono (fun k _ e => ?_)).trans kW (fun k _ e => ?_)).trans hk' (fun k _ e => ?_) |>.trans kS (fun k _ e => ?_)) (fun k hk => ?_)
  · rcases e with e | e <;> simp [rBl, e]
  · have e' : k = rb := e
    rw [e']
    simp [rBl]
  · exact memL e
  · have e' : k = rb := e
    rw [e']
    simp [rBl]
  · simp only [rBl, List.mem_cons, List.mem_append, Option.mem_toList, hflat] at hk ⊢
    rcases hk with e | e | e | e | e | e
    · exact Or.inl (Or.inl e)
    · exact Or.inl (Or.inr (Or.inl e))
    · exact Or.inl (Or.inr (Or.inr (Or.inl e)))
    · exact Or.inl (Or.inr (Or.inr (Or.inr (Or.inl e))))
    · rcases hm' k e with e | e
      · exact Or.inl (Or.inr (Or.inr (Or.inr (Or.inr (Or.inl e)))))
      · exact Or.inr (by omega)
    · rcases e with e | e
      · exact Or.inl (Or.inr (Or.inr (Or.inr (Or.inr (Or.inr e)))))
      · simp only [List.not_mem_nil, or_false] at e
        exact Or.inr (by omega)
end

/-- One pointer in a block of its own. -/
theorem sr_ptr (w : World) (v : Value) (hv : v.oneCell' = true) (T : TypeId) : Sr (w.alloc (.cells #[v] T)).drew (.slice (some ⟨w.heap.size, 0, none⟩) 1 1) 1 1 [v] := by
  refine ⟨rfl, Or.inr ⟨_, _, rfl, fun j u hu => ?_⟩, fun u hu => ?_⟩
  · have hj : j < 1 := by simpa using (List.getElem?_eq_some_iff.1 hu).1
    have hj0 : j = 0 := by omega
    subst hj0
    simp only [List.getElem?_cons_zero, Option.some.injEq] at hu
    subst hu
    rw [Addr.add_at]
    show (w.alloc (.cells #[v] T)).cell? _ = _
    rw [cell_of_row _ _ _ _ _ _ (heap_alloc_new w _)]
    rfl
  · rw [List.mem_singleton] at hu
    rw [hu]
    exact hv

set_option maxRecDepth 20000 in
set_option maxHeartbeats 1000000 in
theorem hrnew_no (node cells objects : Int) (last : Nat) (h : ¬ (1 ≤ node ∧ node ≤ 64) ∨ ¬ (1 ≤ objects ∧ objects ≤ 64) ∨ 72057594037927935 < last ∨ cells < 16 ∨ 4096 < cells ∨ cells % 16 ≠ 0) (w : World) :
    Calls Tryd.prog 28 #[.int .i64 node, .int .i64 cells, .int .i64 objects, .int .u64 (last : Int)] w fun e w' => e = .returned (.pointer none) ∧ w = w' := by
  by_cases h1 : node < 1
  · go_enter Tryd.func28, Tryd.ntmps28
    go_wp2
    go_ret
    exact ⟨rfl, rfl⟩
  by_cases h2 : 64 < node
  · go_enter Tryd.func28, Tryd.ntmps28
    go_wp2
    go_ret
    exact ⟨rfl, rfl⟩
  by_cases h3 : objects < 1
  · go_enter Tryd.func28, Tryd.ntmps28
    go_wp2
    go_ret
    exact ⟨rfl, rfl⟩
  by_cases h4 : 64 < objects
  · go_enter Tryd.func28, Tryd.ntmps28
    go_wp2
    go_ret
    exact ⟨rfl, rfl⟩
  by_cases h5 : 72057594037927935 < last
  · have h5i : (72057594037927935 : Int) < (last : Int) := by omega
    clear h h5
    go_enter Tryd.func28, Tryd.ntmps28
    go_wp2
    go_ret
    exact ⟨rfl, rfl⟩
  have h5i : (last : Int) ≤ 72057594037927935 := by omega
  have h5d : decide ((72057594037927935 : Int) < (last : Int)) = false := decide_eq_false (by omega)
  by_cases h6 : cells < 16
  · clear h h5
    go_enter Tryd.func28, Tryd.ntmps28
    go_wp2
    go_ret
    exact ⟨rfl, rfl⟩
  by_cases h7 : 4096 < cells
  · clear h h5
    go_enter Tryd.func28, Tryd.ntmps28
    go_wp2
    go_ret
    exact ⟨rfl, rfl⟩
  obtain ⟨m, rfl⟩ : ∃ m : Nat, cells = (m : Int) := ⟨cells.toNat, by omega⟩
  have hb : ((m : Int) % 16 != 0) = true := by rw [bne_iff_ne]; omega
  clear h h5
  go_enter Tryd.func28, Tryd.ntmps28
  go_wp2
  go_ret
  exact ⟨rfl, rfl⟩

set_option maxRecDepth 20000 in
set_option maxHeartbeats 1000000 in
theorem hrnew_ok (node n objects last : Nat) (h1 : 1 ≤ node ∧ node ≤ 64) (h2 : 1 ≤ objects ∧ objects ≤ 64) (h3 : last ≤ 72057594037927935) (h4 : 1 ≤ n ∧ n ≤ 256) (w : World) :
    Calls Tryd.prog 28 #[.int .i64 (node : Int), .int .i64 ((16 * n : Nat) : Int), .int .i64 (objects : Int), .int .u64 (last : Int)] w fun e w' => ∃ rb F, e = .returned (.pointer (some ⟨rb, 0, none⟩)) ∧ RP w' rb F ⟨node, objects, last, List.replicate n bk0, []⟩ ∧ (∀ k, F k → w.heap.size ≤ k) ∧ Below w.heap.size w w' := by
  have hN := rnew_any n h4.1 h4.2 w
  obtain ⟨N, hNe⟩ : ∃ N, N = 16 * n := ⟨_, rfl⟩
  rw [← hNe] at hN ⊢
  have i1 : (1 : Int) ≤ (node : Int) := by omega
  have i2 : (node : Int) ≤ 64 := by omega
  have i3 : (1 : Int) ≤ (objects : Int) := by omega
  have i4 : (objects : Int) ≤ 64 := by omega
  have i5 : (last : Int) ≤ 72057594037927935 := by omega
  have i5d : decide ((72057594037927935 : Int) < (last : Int)) = false := decide_eq_false (by omega)
  have i6 : (16 : Int) ≤ (N : Int) := by omega
  have i7 : (N : Int) ≤ 4096 := by omega
  have i8 : (N : Int) % 16 = 0 := by omega
  have HO : Hid (HSt.Ok ⟨node, objects, last, List.replicate n bk0, []⟩) := hidden (HSt.Ok.new h1.2 h2.2 h3 h4.2)
  clear hNe h1 h2 h3 h4
  go_enter Tryd.func28, Tryd.ntmps28
  go_wp2_with (go_at_call 62; refine hN.mono ?_; rintro e w1 ⟨ra, rc, rt, rfl, ha, hb1, g1, g2, g3⟩)
  go_ret
  have hz := hb1.size
  obtain ⟨l1, l2, l3⟩ := ha.lt
  have hA : Below w1.heap.size w1 (w1.alloc (.cells #[.int .i64 (node : Int), .int .i64 (objects : Int), .int .u64 (last : Int), .pointer (some ⟨ra, 0, none⟩), .slice none 0 0] 58)) := (Below.refl _ _).alloc (Nat.le_refl _) _
  have x : RX (w1.alloc (.cells #[.int .i64 (node : Int), .int .i64 (objects : Int), .int .u64 (last : Int), .pointer (some ⟨ra, 0, none⟩), .slice none 0 0] 58)) w1.heap.size ra rc rt (.slice none 0 0) ⟨node, objects, last, List.replicate n bk0, []⟩ [] := by
    refine ⟨heap_alloc_new w1 _, ha.below hA, ⟨rfl, Or.inl ⟨rfl, rfl⟩⟩, by simp, ?_, rfl, HO.out⟩
    obtain ⟨q1, q2, q3⟩ := ha.ne
    exact rnd_mk ⟨by omega, by omega, by omega, q1, q2, q3⟩ (fun k e => by simp [Value.ownBlock] at e) (by simp) (by simp)
  refine ⟨w1.heap.size, _, rfl, x.rp, fun k hk => ?_, hb1.trans (hA.mono hz)⟩
  simp [rBl, Value.ownBlock] at hk
  omega

end Go.Proofs.YtdafpfdmnccelaaDoor
