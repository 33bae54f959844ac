/- The plain heap in memory. -/
import Derived.Test.YtbgaejjoomnklaaDoorHpR
import Derived.Test.YtbgaejjoomnklaaDoorArW
namespace Go.Proofs.YtbgaejjoomnklaaDoor
open Go.RowKit

/-- An object's cells; a pointer to it. -/
def Pl.cells (p : Pl) : List Value := [.int .u64 (p.o.s : Int), .int .i64 (p.o.c : Int), .slice (some ⟨p.rb, 0, none⟩) p.o.rf.length p.o.rf.length, .slice (some ⟨p.vb, 0, none⟩) p.o.vl.length p.o.vl.length, .int .i64 (p.o.d : Int)]
def Pl.ptr (p : Pl) : Value := .pointer (some ⟨p.pb, 0, none⟩)
def Pl.bl3 (p : Pl) : List Nat := [p.pb, p.rb, p.vb]
def rBl (rb ra rc rt : Nat) (lv : Value) (M : List Pl) : List Nat := rb :: ra :: rc :: rt :: (lv.ownBlock.toList ++ M.flatMap Pl.bl3)
/-- The plain heap at block rb. -/
structure RX (w : World) (rb ra rc rt : Nat) (lv : Value) (h : HSt) (M : List Pl) : Prop where
  box : Row w rb 60 [.int .i64 (h.node : Int), .int .i64 (h.most : Int), .int .u64 (h.last : Int), .pointer (some ⟨ra, 0, none⟩), lv]
  ar : RA w ra rc rt h.bs
  ls : w.ownsRow 0 117 1 lv M.length (M.map Pl.ptr)
  rows : ∀ p ∈ M, Row w p.pb 78 p.cells ∧ Row w p.rb 31 (idsV p.o.rf) ∧ Row w p.vb 26 (p.o.vl.map uV)
  nd : (rBl rb ra rc rt lv M).Nodup
  cs : M.map (·.o) = h.cs
  ok : h.Ok
section
variable {w w' : World} {rb ra rc rt : Nat} {lv : Value} {h : HSt} {M : List Pl} {S : Nat → Prop}
theorem mem3 {M : List Pl} {p : Pl} (hp : p ∈ M) {k : Nat} (hk : k ∈ p.bl3) : k ∈ M.flatMap Pl.bl3 := List.mem_flatMap.2 ⟨p, hp, hk⟩
theorem memR {rb ra rc rt : Nat} {lv : Value} {M : List Pl} {p : Pl} (hp : p ∈ M) {k : Nat} (hk : k ∈ p.bl3) : k ∈ rBl rb ra rc rt lv M := by
  simp only [rBl, List.mem_cons, List.mem_append]
  exact Or.inr (Or.inr (Or.inr (Or.inr (Or.inr (mem3 hp hk)))))
theorem memL {rb ra rc rt : Nat} {lv : Value} {M : List Pl} {k : Nat} (hk : lv.ownBlock = some k) : k ∈ rBl rb ra rc rt lv M := by
  simp only [rBl, List.mem_cons, List.mem_append]
  exact Or.inr (Or.inr (Or.inr (Or.inr (Or.inl (by rw [hk]; simp)))))
theorem RX.lsLt (x : RX w rb ra rc rt lv h M) {k : Nat} (hk : lv.ownBlock = some k) : k < w.heap.size := by
  obtain ⟨_, ⟨e, h0⟩ | ⟨g, cap, cur, e, hb, hg, _⟩⟩ := x.ls
  · rw [e] at hk; simp [Value.ownBlock] at hk
  · rw [e] at hk
    simp only [Value.ownBlock, Option.some.injEq] at hk
    subst hk
    exact (Array.getElem?_eq_some_iff.1 hg).1
theorem RX.lt (x : RX w rb ra rc rt lv h M) : ∀ k ∈ rBl rb ra rc rt lv M, k < w.heap.size := by
  intro k hk
  obtain ⟨l1, l2, l3⟩ := x.ar.lt
  simp only [rBl, List.mem_cons, List.mem_append, List.mem_flatMap, Option.mem_toList] at hk
  rcases hk with rfl | rfl | rfl | rfl | hk | ⟨p, hp, hk⟩
  · exact x.box.lt
  · exact l1
  · exact l2
  · exact l3
  · exact x.lsLt hk
  · simp only [Pl.bl3, List.mem_cons, List.not_mem_nil, or_false] at hk
    rcases hk with rfl | rfl | rfl
    · exact (x.rows p hp).1.lt
    · exact (x.rows p hp).2.1.lt
    · exact (x.rows p hp).2.2.lt
theorem RX.kept (x : RX w rb ra rc rt lv h M) (hk : Kept w w' S) (hs : ∀ k ∈ rBl rb ra rc rt lv M, ¬ S k) : RX w' rb ra rc rt lv h M :=
  ⟨x.box.kept hk (hs _ (by simp [rBl])), x.ar.kept hk (hs _ (by simp [rBl])) (hs _ (by simp [rBl])) (hs _ (by simp [rBl])), own_kept x.ls hk (fun k e => hs k (memL e)),
    fun p hp => ⟨(x.rows p hp).1.kept hk (hs _ (memR hp (by simp [Pl.bl3]))), (x.rows p hp).2.1.kept hk (hs _ (memR hp (by simp [Pl.bl3]))), (x.rows p hp).2.2.kept hk (hs _ (memR hp (by simp [Pl.bl3])))⟩, x.nd, x.cs, x.ok⟩
theorem RX.below (x : RX w rb ra rc rt lv h M) (hB : Below w.heap.size w w') : RX w' rb ra rc rt lv h M := x.kept (kept_of_below hB (fun _ => False)) (fun _ _ => id)
theorem RX.c1 (x : RX w rb ra rc rt lv h M) : w.cell? ⟨rb, 1, none⟩ = some (.int .i64 (h.most : Int)) := x.box.cell 1 (by simp)
theorem RX.c2 (x : RX w rb ra rc rt lv h M) : w.cell? ⟨rb, 2, none⟩ = some (.int .u64 (h.last : Int)) := x.box.cell 2 (by simp)
theorem RX.c3 (x : RX w rb ra rc rt lv h M) : w.cell? ⟨rb, 3, none⟩ = some (.pointer (some ⟨ra, 0, none⟩)) := x.box.cell 3 (by simp)
theorem RX.c4 (x : RX w rb ra rc rt lv h M) : w.cell? ⟨rb, 4, none⟩ = some lv := x.box.cell 4 (by simp)
theorem RX.count (x : RX w rb ra rc rt lv h M) : M.length = h.cs.length := by rw [← x.cs, List.length_map]
theorem RX.few (x : RX w rb ra rc rt lv h M) : M.length ≤ 64 := by
  have := x.count
  have := x.ok.cnt
  have := x.ok.most
  omega
theorem RX.get (x : RX w rb ra rc rt lv h M) (s : Nat) : getC h.cs s = (getP M s).map (·.o) := by rw [← x.cs, getP_o]
theorem RX.slice (x : RX w rb ra rc rt lv h M) : ∃ ao cap, lv = .slice ao M.length cap ∧ M.length ≤ cap ∧ cap ≤ maxLen ∧ (ao = none → cap = 0) := own_slice x.ls
theorem RX.at (x : RX w rb ra rc rt lv h M) (i : Nat) (hi : i < M.length) : ∃ g cap, lv = .slice (some ⟨g, 0, none⟩) M.length cap ∧ M.length ≤ cap ∧ g < w.heap.size ∧ ∀ j (hj : j < M.length), w.cell? ⟨g, j, none⟩ = some (.pointer (some ⟨M[j].pb, 0, none⟩)) := by
  obtain ⟨_, ⟨e, h0⟩ | ⟨g, cap, cur, e, hb, hg, hn, hm, hs, ht⟩⟩ := x.ls
  · omega
  · refine ⟨g, cap, e, hn, (Array.getElem?_eq_some_iff.1 hg).1, fun j hj => ?_⟩
    rw [cell_of_row w g j _ _ _ hg]
    have h2 : (cur.toList.take (M.length * 1))[j]? = some (.pointer (some ⟨M[j].pb, 0, none⟩)) := by
      rw [ht, List.getElem?_map, List.getElem?_eq_getElem hj]
      rfl
    rw [List.getElem?_take_of_lt (by omega)] at h2
    simpa using h2
theorem RX.srt (x : RX w rb ra rc rt lv h M) : (M.map (·.o)).Pairwise (fun a b => a.s < b.s) := by rw [x.cs]; exact x.ok.srt
theorem RX.fl (x : RX w rb ra rc rt lv h M) {p : Pl} (hp : p ∈ M) : p.o.rf.length ≤ 7 ∧ p.o.vl.length ≤ 7 ∧ p.o.c ≤ 10000 ∧ p.o.d ≤ 40 := x.ok.fl p.o (by rw [← x.cs]; exact List.mem_map.2 ⟨p, hp, rfl⟩)
theorem RX.pc (x : RX w rb ra rc rt lv h M) {p : Pl} (hp : p ∈ M) (j : Nat) (u : Value) (hu : p.cells[j]? = some u) : w.cell? ⟨p.pb, j, none⟩ = some u := (x.rows p hp).1.at j u hu
theorem RX.rc' (x : RX w rb ra rc rt lv h M) {p : Pl} (hp : p ∈ M) (i : Nat) (hi : i < p.o.rf.length) : w.cell? ⟨p.rb, i * 2, none⟩ = some (.int .i64 p.o.rf[i].1) ∧ w.cell? ⟨p.rb, i * 2 + 1, none⟩ = some (.int .u64 (p.o.rf[i].2 : Int)) := by
  obtain ⟨h1, h2⟩ := idsV_at p.o.rf i hi
  exact ⟨(x.rows p hp).2.1.at _ _ h1, (x.rows p hp).2.1.at _ _ h2⟩
theorem RX.vc (x : RX w rb ra rc rt lv h M) {p : Pl} (hp : p ∈ M) (i : Nat) (hi : i < p.o.vl.length) : w.cell? ⟨p.vb, i, none⟩ = some (.int .u64 (p.o.vl[i] : Int)) := (x.rows p hp).2.2.at _ _ (by rw [List.getElem?_map, List.getElem?_eq_getElem hi]; rfl)

theorem bl3_ne {M : List Pl} (h : (M.flatMap Pl.bl3).Nodup) {p q : Pl} (hp : p ∈ M) (hq : q ∈ M) (hne : p.o.s ≠ q.o.s) : ∀ k ∈ p.bl3, ¬ k ∈ q.bl3 := by
  induction M with
  | nil => cases hp
  | cons x l ih =>
    rw [List.flatMap_cons, List.nodup_append] at h
    obtain ⟨_, h2, h3⟩ := h
    intro k hk hk'
    rcases List.mem_cons.1 hp with e1 | h1
    · rcases List.mem_cons.1 hq with e2 | h4
      · exact hne (by rw [e1, e2])
      · subst e1
        exact h3 k hk k (List.mem_flatMap.2 ⟨q, h4, hk'⟩) rfl
    · rcases List.mem_cons.1 hq with e2 | h4
      · subst e2
        exact h3 k hk' k (List.mem_flatMap.2 ⟨p, h1, hk⟩) rfl
      · exact ih h2 h1 h4 k hk hk'
theorem own3 {M : List Pl} (h : (M.flatMap Pl.bl3).Nodup) {p : Pl} (hp : p ∈ M) : p.pb ≠ p.rb ∧ p.pb ≠ p.vb ∧ p.rb ≠ p.vb := by
  induction M with
  | nil => cases hp
  | cons x l ih =>
    rw [List.flatMap_cons, List.nodup_append] at h
    rcases List.mem_cons.1 hp with e | h1
    · subst e
      have := h.1
      simp [Pl.bl3] at this
      exact ⟨this.1.1, this.1.2, this.2⟩
    · exact ih h.2.1 h1
/-- The blocks are apart. -/
theorem rnd_parts {rb ra rc rt : Nat} {lv : Value} {M : List Pl} (h : (rBl rb ra rc rt lv M).Nodup) : (rb ≠ ra ∧ rb ≠ rc ∧ rb ≠ rt ∧ ra ≠ rc ∧ ra ≠ rt ∧ rc ≠ rt) ∧ (∀ k, lv.ownBlock = some k → k ≠ rb ∧ k ≠ ra ∧ k ≠ rc ∧ k ≠ rt) ∧ (M.flatMap Pl.bl3).Nodup ∧ (∀ k ∈ M.flatMap Pl.bl3, k ≠ rb ∧ k ≠ ra ∧ k ≠ rc ∧ k ≠ rt ∧ lv.ownBlock ≠ some k) := by
  unfold rBl at h
  simp only [List.nodup_cons, List.mem_cons, List.mem_append, not_or, List.nodup_append, Option.mem_toList] at h
  obtain ⟨⟨a1, a2, a3, a4, a5⟩, ⟨b2, b3, b4, b5⟩, ⟨c3, c4, c5⟩, ⟨d4, d5⟩, _, f1, f2⟩ := h
  refine ⟨⟨a1, a2, a3, b2, b3, c3⟩, fun k hk => ⟨fun e => a4 (e ▸ hk), fun e => b4 (e ▸ hk), fun e => c4 (e ▸ hk), fun e => d4 (e ▸ hk)⟩, f1, fun k hk => ⟨fun e => a5 (e ▸ hk), fun e => b5 (e ▸ hk), fun e => c5 (e ▸ hk), fun e => d5 (e ▸ hk), fun e => f2 k e k hk rfl⟩⟩
theorem upL_bl3 (L : List Pl) (s : Nat) (g : Oc → Oc) : (upL L s g).flatMap Pl.bl3 = L.flatMap Pl.bl3 := by
  unfold upL
  rw [List.flatMap_map]
  congr 1
  funext q
  split <;> rfl
theorem upL_ptr (L : List Pl) (s : Nat) (g : Oc → Oc) : (upL L s g).map Pl.ptr = L.map Pl.ptr := by
  unfold upL
  rw [List.map_map]
  apply List.map_congr_left
  intro q _
  simp only [Function.comp]
  split <;> rfl
theorem upL_len (L : List Pl) (s : Nat) (g : Oc → Oc) : (upL L s g).length = L.length := by simp [upL]
theorem upL_rBl (rb ra rc rt : Nat) (lv : Value) (L : List Pl) (s : Nat) (g : Oc → Oc) : rBl rb ra rc rt lv (upL L s g) = rBl rb ra rc rt lv L := by
  unfold rBl
  rw [upL_bl3]
theorem RX.upd (x : RX w rb ra rc rt lv h M) {s : Nat} {p : Pl} (hg : getP M s = some p) (g : Oc → Oc) (hk : Kept w w' S) (hS : ∀ k, S k → k = p.pb ∨ k = p.rb ∨ k = p.vb)
    (hb : Row w' p.pb 78 (Pl.cells { p with o := g p.o })) (hr : Row w' p.rb 31 (idsV (g p.o).rf)) (hv : Row w' p.vb 26 ((g p.o).vl.map uV)) (hok : HSt.Ok { h with cs := updC h.cs s g }) :
    RX w' rb ra rc rt lv { h with cs := updC h.cs s g } (upL M s g) := by
  obtain ⟨hp, hps⟩ := getP_mem hg
  obtain ⟨⟨a1, a2, a3, a4, a5, a6⟩, n2, n3, n4⟩ := rnd_parts x.nd
  have m1 := n4 p.pb (mem3 hp (by simp [Pl.bl3]))
  have m2 := n4 p.rb (mem3 hp (by simp [Pl.bl3]))
  have m3 := n4 p.vb (mem3 hp (by simp [Pl.bl3]))
  have hn : ∀ k, k = rb ∨ k = ra ∨ k = rc ∨ k = rt → ¬ S k := fun k hk e => by
    have := hS k e
    omega
  refine ⟨x.box.kept hk (hn _ (Or.inl rfl)), x.ar.kept hk (hn _ (by omega)) (hn _ (by omega)) (hn _ (by omega)), ?_, fun q hq => ?_, by rw [upL_rBl]; exact x.nd, by rw [upL_cs, x.cs], hok⟩
  · rw [upL_len, upL_ptr]
    refine own_kept x.ls hk (fun k e hSk => ?_)
    rcases hS k hSk with e2 | e2 | e2
    · exact m1.2.2.2.2 (e2 ▸ e)
    · exact m2.2.2.2.2 (e2 ▸ e)
    · exact m3.2.2.2.2 (e2 ▸ e)
  · rcases upL_mem hq with ⟨h1, h2⟩ | ⟨p', h1, h2, rfl⟩
    · have hap := bl3_ne n3 h1 hp (by rw [hps]; exact h2)
      have hnn : ∀ k ∈ q.bl3, ¬ S k := fun k hk e => by
        refine hap k hk ?_
        rcases hS k e with e | e | e <;> simp [Pl.bl3, e]
      exact ⟨(x.rows q h1).1.kept hk (hnn _ (by simp [Pl.bl3])), (x.rows q h1).2.1.kept hk (hnn _ (by simp [Pl.bl3])), (x.rows q h1).2.2.kept hk (hnn _ (by simp [Pl.bl3]))⟩
    · have : p' = p := pl_uniq x.srt h1 hp (by rw [h2, hps])
      subst this
      exact ⟨hb, hr, hv⟩
theorem RX.setR (x : RX w rb ra rc rt lv h M) {s : Nat} {p : Pl} (hg : getP M s = some p) (i : Nat) (y : Int × Nat) (hk : Kept w w' (fun k => k = p.rb)) (hr : Row w' p.rb 31 (idsV (p.o.rf.set i y))) :
    RX w' rb ra rc rt lv { h with cs := updC h.cs s (fun o => o.setR i y) } (upL M s (fun o => o.setR i y)) := by
  obtain ⟨hp, hps⟩ := getP_mem hg
  obtain ⟨_, _, n3, _⟩ := rnd_parts x.nd
  obtain ⟨o1, o2, o3⟩ := own3 n3 hp
  refine x.upd hg (fun o => o.setR i y) hk (fun k e => Or.inr (Or.inl e)) ?_ hr ((x.rows p hp).2.2.kept hk (by show ¬ (p.vb = p.rb); omega)) ?_
  · have : Pl.cells { p with o := p.o.setR i y } = p.cells := by simp [Pl.cells, Oc.setR]
    rw [this]
    exact (x.rows p hp).1.kept hk (by show ¬ (p.pb = p.rb); omega)
  · refine x.ok.upd s _ (fun o ho _ => ?_)
    have := x.ok.fl o ho
    simpa [Oc.setR] using this
theorem RX.setV (x : RX w rb ra rc rt lv h M) {s : Nat} {p : Pl} (hg : getP M s = some p) (i : Nat) (y : Nat) (hk : Kept w w' (fun k => k = p.vb)) (hr : Row w' p.vb 26 ((p.o.vl.set i y).map uV)) :
    RX w' rb ra rc rt lv { h with cs := updC h.cs s (fun o => o.setV i y) } (upL M s (fun o => o.setV i y)) := by
  obtain ⟨hp, hps⟩ := getP_mem hg
  obtain ⟨_, _, n3, _⟩ := rnd_parts x.nd
  obtain ⟨o1, o2, o3⟩ := own3 n3 hp
  refine x.upd hg (fun o => o.setV i y) hk (fun k e => Or.inr (Or.inr e)) ?_ ((x.rows p hp).2.1.kept hk (by show ¬ (p.rb = p.vb); omega)) hr ?_
  · have : Pl.cells { p with o := p.o.setV i y } = p.cells := by simp [Pl.cells, Oc.setV]
    rw [this]
    exact (x.rows p hp).1.kept hk (by show ¬ (p.pb = p.vb); omega)
  · refine x.ok.upd s _ (fun o ho _ => ?_)
    have := x.ok.fl o ho
    simpa [Oc.setV] using this
theorem RX.setD (x : RX w rb ra rc rt lv h M) {s : Nat} {p : Pl} (hg : getP M s = some p) (d : Nat) (hd : d ≤ 40) : RX (w.setCell ⟨p.pb, 4, none⟩ (.int .i64 (d : Int))) rb ra rc rt lv { h with cs := updC h.cs s (fun o => o.setD d) } (upL M s (fun o => o.setD d)) := by
  obtain ⟨hp, hps⟩ := getP_mem hg
  obtain ⟨_, _, n3, _⟩ := rnd_parts x.nd
  obtain ⟨o1, o2, o3⟩ := own3 n3 hp
  have hk : Kept w (w.setCell ⟨p.pb, 4, none⟩ (.int .i64 (d : Int))) (fun k => k = p.pb) := Kept.setCell _ _ _
  refine x.upd hg (fun o => o.setD d) hk (fun k e => Or.inl e) ?_ ((x.rows p hp).2.1.kept hk (by show ¬ (p.rb = p.pb); omega)) ((x.rows p hp).2.2.kept hk (by show ¬ (p.vb = p.pb); omega)) ?_
  · exact (x.rows p hp).1.set 4 _
  · refine x.ok.upd s _ (fun o ho _ => ?_)
    have := x.ok.fl o ho
    exact ⟨rfl, this.1, this.2.1, this.2.2.1, hd⟩
end

/-- The plain heap, and the blocks that are its. -/
structure RP (w : World) (rb : Nat) (F : Nat → Prop) (h : HSt) : Prop where
  ex : ∃ ra rc rt lv M, RX w rb ra rc rt lv h M ∧ ∀ k, F k ↔ k ∈ rBl rb ra rc rt lv M
structure RGoes (w w' : World) (rb : Nat) (F : Nat → Prop) (h' : HSt) : Prop where
  ex : ∃ F', RP w' rb F' h' ∧ ∀ k, F' k → F k ∨ w.heap.size ≤ k
  kept : Kept w w' F
section
variable {w w' : World} {rb ra rc rt ra' rc' rt' : Nat} {lv lv' : Value} {h h' : HSt} {M M' : List Pl} {F : Nat → Prop}
theorem RX.rp (x : RX w rb ra rc rt lv h M) : RP w rb (fun k => k ∈ rBl rb ra rc rt lv M) h := ⟨ra, rc, rt, lv, M, x, fun _ => Iff.rfl⟩
theorem RX.goes (x : RX w' rb ra' rc' rt' lv' h' M') (hk : Kept w w' F) (hs : ∀ k ∈ rBl rb ra' rc' rt' lv' M', F k ∨ w.heap.size ≤ k) : RGoes w w' rb F h' := ⟨⟨_, x.rp, hs⟩, hk⟩
theorem RP.ok (x : RP w rb F h) : h.Ok := by
  obtain ⟨ra, rc, rt, lv, M, hx, _⟩ := x.ex
  exact hx.ok
theorem RP.lt (x : RP w rb F h) : ∀ k, F k → k < w.heap.size := by
  obtain ⟨ra, rc, rt, lv, M, hx, hF⟩ := x.ex
  exact fun k hk => hx.lt k ((hF k).1 hk)
theorem RP.kept {S : Nat → Prop} (x : RP w rb F h) (hk : Kept w w' S) (hs : ∀ k, F k → ¬ S k) : RP w' rb F h := by
  obtain ⟨ra, rc, rt, lv, M, hx, hF⟩ := x.ex
  exact ⟨ra, rc, rt, lv, M, hx.kept hk (fun k hk => hs k ((hF k).2 hk)), hF⟩
theorem RP.below (x : RP w rb F h) (hB : Below w.heap.size w w') : RP w' rb F h := x.kept (kept_of_below hB (fun _ => False)) (fun _ _ => id)
theorem RP.stay (x : RP w rb F h) (hB : Below w.heap.size w w') : RGoes w w' rb F h := ⟨⟨F, x.below hB, fun _ hk => Or.inl hk⟩, kept_of_below hB _⟩
theorem RX.fit {F : Nat → Prop} (hF : ∀ k, F k ↔ k ∈ rBl rb ra rc rt lv M) (x : RGoes w w' rb (fun k => k ∈ rBl rb ra rc rt lv M) h') : RGoes w w' rb F h' := by
  have e : F = (fun k => k ∈ rBl rb ra rc rt lv M) := funext fun k => propext (hF k)
  rw [e]
  exact x
end

end Go.Proofs.YtbgaejjoomnklaaDoor
