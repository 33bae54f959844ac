/- What a heap is behind one of its objects is written into. -/
import Derived.Test.YtdafpfdmnccelaaDoorHpF
namespace Go.Proofs.YtdafpfdmnccelaaDoor
open Go.RowKit

theorem pl_uniq {L : List Pl} (h : (L.map (·.o)).Pairwise (fun a b => a.s < b.s)) {a b : Pl} (ha : a ∈ L) (hb : b ∈ L) (e : a.o.s = b.o.s) : a = b := by
  induction L with
  | nil => cases ha
  | cons x l ih =>
    rw [List.map_cons, List.pairwise_cons] at h
    rcases List.mem_cons.1 ha with e1 | h1
    · rcases List.mem_cons.1 hb with e2 | h2
      · rw [e1, e2]
      · have := h.1 b.o (List.mem_map.2 ⟨b, h2, rfl⟩); rw [← e1] at this; omega
    · rcases List.mem_cons.1 hb with e2 | h2
      · have := h.1 a.o (List.mem_map.2 ⟨a, h1, rfl⟩); rw [← e2] at this; omega
      · exact ih h.2 h1 h2
/-- Two objects share no block. -/
theorem bl_ne {L : List Pl} (h : (L.flatMap Pl.bl).Nodup) {p q : Pl} (hp : p ∈ L) (hq : q ∈ L) (hne : p.o.s ≠ q.o.s) : ∀ k ∈ p.bl, ¬ k ∈ q.bl := by
  induction L with
  | nil => cases hp
  | cons x l ih =>
    rw [List.flatMap_cons, List.nodup_append] at h
    obtain ⟨_, h2, h3⟩ := h
    intro k hk hk'
    rcases List.mem_cons.1 hp with e1 | h1
    · rcases List.mem_cons.1 hq with e2 | h4
      · exact hne (by rw [e1, e2])
      · subst e1
        exact h3 k hk k (List.mem_flatMap.2 ⟨q, h4, hk'⟩) rfl
    · rcases List.mem_cons.1 hq with e2 | h4
      · subst e2
        exact h3 k hk' k (List.mem_flatMap.2 ⟨p, h1, hk⟩) rfl
      · exact ih h2 h1 h4 k hk hk'
/-- The blocks are apart. -/
theorem nd_parts {hb ab mb : Nat} {L : List Pl} (h : (hBl hb ab mb L).Nodup) : hb ≠ ab ∧ hb ≠ mb ∧ ab ≠ mb ∧ (L.flatMap Pl.bl).Nodup ∧ ∀ k ∈ L.flatMap Pl.bl, k ≠ hb ∧ k ≠ ab ∧ k ≠ mb := by
  unfold hBl at h
  simp only [List.nodup_cons, List.mem_cons, not_or] at h
  obtain ⟨⟨h1, h2, h3⟩, ⟨h4, h5⟩, h6, h7⟩ := h
  exact ⟨h1, h2, h4, h7, fun k hk => ⟨fun e => h3 (e ▸ hk), fun e => h5 (e ▸ hk), fun e => h6 (e ▸ hk)⟩⟩
theorem mem_bl {L : List Pl} {p : Pl} (hp : p ∈ L) {k : Nat} (hk : k ∈ p.bl) : k ∈ L.flatMap Pl.bl := List.mem_flatMap.2 ⟨p, hp, hk⟩
theorem own_nd {L : List Pl} (h : (L.flatMap Pl.bl).Nodup) {p : Pl} (hp : p ∈ L) : p.rb ≠ p.vb := by
  induction L with
  | nil => cases hp
  | cons x l ih =>
    rw [List.flatMap_cons, List.nodup_append] at h
    rcases List.mem_cons.1 hp with e | h1
    · subst e
      have := h.1
      simp [Pl.bl] at this
      exact this
    · exact ih h.2.1 h1

/-- One object is another one, where it lay. -/
def upL (L : List Pl) (s : Nat) (g : Oc → Oc) : List Pl := L.map (fun q => if q.o.s = s then { q with o := g q.o } else q)
theorem upL_cs (L : List Pl) (s : Nat) (g : Oc → Oc) : (upL L s g).map (·.o) = updC (L.map (·.o)) s g := by
  unfold upL updC
  rw [List.map_map, List.map_map]
  apply List.map_congr_left
  intro q _
  simp only [Function.comp]
  split <;> rfl
theorem upL_bl (L : List Pl) (s : Nat) (g : Oc → Oc) : (upL L s g).flatMap Pl.bl = L.flatMap Pl.bl := by
  unfold upL
  rw [List.flatMap_map]
  congr 1
  funext q
  split <;> rfl
theorem upL_hBl (hb ab mb : Nat) (L : List Pl) (s : Nat) (g : Oc → Oc) : hBl hb ab mb (upL L s g) = hBl hb ab mb L := by
  unfold hBl
  rw [upL_bl]
theorem upL_mem {L : List Pl} {s : Nat} {g : Oc → Oc} {q : Pl} (h : q ∈ upL L s g) : (q ∈ L ∧ q.o.s ≠ s) ∨ ∃ p ∈ L, p.o.s = s ∧ q = { p with o := g p.o } := by
  unfold upL at h
  obtain ⟨p, hp, rfl⟩ := List.mem_map.1 h
  by_cases e : p.o.s = s
  · exact Or.inr ⟨p, hp, e, if_pos e⟩
  · rw [if_neg e]
    exact Or.inl ⟨hp, e⟩
theorem upL_e_same (L : List Pl) (s : Nat) (g : Oc → Oc) (hg : ∀ p ∈ L, p.o.s = s → Pl.e { p with o := g p.o } = p.e) : (upL L s g).map Pl.e = L.map Pl.e := by
  unfold upL
  rw [List.map_map]
  apply List.map_congr_left
  intro q hq
  simp only [Function.comp]
  split
  · next e => exact hg q hq e
  · rfl

section
variable {w w' : World} {hb ab mb : Nat} {h : HSt} {L : List Pl}
theorem HX.srt (x : HX w hb ab mb h L) : (L.map (·.o)).Pairwise (fun a b => a.s < b.s) := by rw [x.cs]; exact x.ok.srt
/-- One object is another one. -/
theorem HX.upd (x : HX w hb ab mb h L) {s : Nat} {p : Pl} (hg : getP L s = some p) (g : Oc → Oc) {S : Nat → Prop} (hk : Kept w w' S) (h0 : ¬ S 0) (hS : ∀ k ∈ hBl hb ab mb L, S k → k = mb ∨ k = p.rb ∨ k = p.vb)
    (hm : MP w' mb ((upL L s g).map Pl.e)) (hr : Row w' p.rb 51 (idsV (g p.o).rf)) (hv : Row w' p.vb 39 ((g p.o).vl.map uV)) (hok : HSt.Ok { h with cs := updC h.cs s g }) :
    HX w' hb ab mb { h with cs := updC h.cs s g } (upL L s g) := by
  obtain ⟨hp, hps⟩ := getP_mem hg
  obtain ⟨n1, n2, n3, n4, n5⟩ := nd_parts x.nd
  have hprb := n5 p.rb (mem_bl hp (by simp [Pl.bl]))
  have hpvb := n5 p.vb (mem_bl hp (by simp [Pl.bl]))
  have hin1 : hb ∈ hBl hb ab mb L := by simp [hBl]
  have hin2 : ab ∈ hBl hb ab mb L := by simp [hBl]
  refine ⟨x.box.kept hk (fun e => ?_), x.ar.kept hk h0 (fun e => ?_), hm, fun q hq => ?_, by rw [upL_hBl]; exact x.nd, by rw [upL_hBl]; exact x.pos, by rw [upL_cs, x.cs], hok⟩
  · have := hS hb hin1 e
    omega
  · have := hS ab hin2 e
    omega
  · rcases upL_mem hq with ⟨h1, h2⟩ | ⟨p', h1, h2, rfl⟩
    · have hne : q.o.s ≠ p.o.s := by rw [hps]; exact h2
      have hap := bl_ne n4 h1 hp hne
      refine ⟨(x.rows q h1).1.kept hk (fun e => ?_), (x.rows q h1).2.kept hk (fun e => ?_)⟩
      · have := hS q.rb (mem_rb h1) e
        have h3 := hap q.rb (by simp [Pl.bl])
        have h4 := (n5 q.rb (mem_bl h1 (by simp [Pl.bl]))).2.2
        simp only [Pl.bl, List.mem_cons, List.not_mem_nil, or_false, not_or] at h3
        omega
      · have := hS q.vb (mem_vb h1) e
        have h3 := hap q.vb (by simp [Pl.bl])
        have h4 := (n5 q.vb (mem_bl h1 (by simp [Pl.bl]))).2.2
        simp only [Pl.bl, List.mem_cons, List.not_mem_nil, or_false, not_or] at h3
        omega
    · have : p' = p := pl_uniq x.srt h1 hp (by rw [h2, hps])
      subst this
      exact ⟨hr, hv⟩
theorem HX.setR (x : HX w hb ab mb h L) {s : Nat} {p : Pl} (hg : getP L s = some p) (i : Nat) (y : Int × Nat) (hk : Kept w w' (fun k => k = p.rb)) (hr : Row w' p.rb 51 (idsV (p.o.rf.set i y))) :
    HX w' hb ab mb { h with cs := updC h.cs s (fun o => o.setR i y) } (upL L s (fun o => o.setR i y)) := by
  obtain ⟨hp, hps⟩ := getP_mem hg
  obtain ⟨n1, n2, n3, n4, n5⟩ := nd_parts x.nd
  have hprb := n5 p.rb (mem_bl hp (by simp [Pl.bl]))
  have hpos := x.pos p.rb (mem_rb hp)
  have hvr := own_nd n4 hp
  refine x.upd hg (fun o => o.setR i y) hk (by show ¬ (0 = p.rb); omega) (fun k _ e => Or.inr (Or.inl e)) ?_ hr ((x.rows p hp).2.kept hk (by show ¬ (p.vb = p.rb); omega)) ?_
  · rw [upL_e_same]
    · exact x.mp.kept hk (by show ¬ (mb = p.rb); omega)
    · intro q _ _
      simp [Pl.e, Pl.v, Oc.setR]
  · refine x.ok.upd s _ (fun o ho _ => ?_)
    have := x.ok.fl o ho
    simpa [Oc.setR] using this
theorem HX.setV (x : HX w hb ab mb h L) {s : Nat} {p : Pl} (hg : getP L s = some p) (i : Nat) (y : Nat) (hk : Kept w w' (fun k => k = p.vb)) (hr : Row w' p.vb 39 ((p.o.vl.set i y).map uV)) :
    HX w' hb ab mb { h with cs := updC h.cs s (fun o => o.setV i y) } (upL L s (fun o => o.setV i y)) := by
  obtain ⟨hp, hps⟩ := getP_mem hg
  obtain ⟨n1, n2, n3, n4, n5⟩ := nd_parts x.nd
  have hprb := n5 p.vb (mem_bl hp (by simp [Pl.bl]))
  have hpos := x.pos p.vb (mem_vb hp)
  have hvr := own_nd n4 hp
  refine x.upd hg (fun o => o.setV i y) hk (by show ¬ (0 = p.vb); omega) (fun k _ e => Or.inr (Or.inr e)) ?_ ((x.rows p hp).1.kept hk (by show ¬ (p.rb = p.vb); omega)) hr ?_
  · rw [upL_e_same]
    · exact x.mp.kept hk (by show ¬ (mb = p.vb); omega)
    · intro q _ _
      simp [Pl.e, Pl.v, Oc.setV]
  · refine x.ok.upd s _ (fun o ho _ => ?_)
    have := x.ok.fl o ho
    simpa [Oc.setV] using this
theorem HX.setD (x : HX w hb ab mb h L) {s : Nat} {p : Pl} (hg : getP L s = some p) (d : Nat) (hd : d ≤ 40) (hk : Kept w w' (fun k => k = mb)) (hm : MP w' mb (updE (L.map Pl.e) s (Pl.v { p with o := p.o.setD d }))) :
    HX w' hb ab mb { h with cs := updC h.cs s (fun o => o.setD d) } (upL L s (fun o => o.setD d)) := by
  obtain ⟨hp, hps⟩ := getP_mem hg
  obtain ⟨n1, n2, n3, n4, n5⟩ := nd_parts x.nd
  have hprb := n5 p.rb (mem_bl hp (by simp [Pl.bl]))
  have hpvb := n5 p.vb (mem_bl hp (by simp [Pl.bl]))
  have hpos := x.pos mb (by simp [hBl])
  refine x.upd hg (fun o => o.setD d) hk (by show ¬ (0 = mb); omega) (fun k _ e => Or.inl e) ?_ ((x.rows p hp).1.kept hk (by show ¬ (p.rb = mb); omega)) ((x.rows p hp).2.kept hk (by show ¬ (p.vb = mb); omega)) ?_
  · have e : (upL L s (fun o => o.setD d)).map Pl.e = updE (L.map Pl.e) s (Pl.v { p with o := p.o.setD d }) := by
      unfold upL updE
      rw [List.map_map, List.map_map]
      apply List.map_congr_left
      intro q hq
      simp only [Function.comp]
      by_cases e : q.o.s = s
      · have : q = p := pl_uniq x.srt hq hp (by rw [e, hps])
        subst this
        rw [if_pos e, if_pos (by exact e)]
        simp [Pl.e, Oc.setD, e]
      · rw [if_neg e, if_neg (by exact e)]
    rw [e]
    exact hm
  · refine x.ok.upd s _ (fun o ho _ => ?_)
    have := x.ok.fl o ho
    exact ⟨rfl, this.1, this.2.1, this.2.2.1, hd⟩
end

/-- A heap, and the blocks that are its. -/
structure HP (w : World) (hb : Nat) (F : Nat → Prop) (h : HSt) : Prop where
  ex : ∃ ab mb L, HX w hb ab mb h L ∧ ∀ k, F k ↔ k ∈ hBl hb ab mb L
/-- What became of it. -/
structure Goes (w w' : World) (hb : Nat) (F : Nat → Prop) (h' : HSt) : Prop where
  ex : ∃ F', HP w' hb F' h' ∧ ∀ k, F' k → F k ∨ w.heap.size ≤ k
  kept : Kept w w' F
section
variable {w w' : World} {hb ab mb ab' mb' : Nat} {h h' : HSt} {L L' : List Pl} {F : Nat → Prop}
theorem HX.hp (x : HX w hb ab mb h L) : HP w hb (fun k => k ∈ hBl hb ab mb L) h := ⟨ab, mb, L, x, fun _ => Iff.rfl⟩
theorem HX.goes (x : HX w' hb ab' mb' h' L') (hk : Kept w w' F) (hs : ∀ k ∈ hBl hb ab' mb' L', F k ∨ w.heap.size ≤ k) : Goes w w' hb F h' := ⟨⟨_, x.hp, hs⟩, hk⟩
theorem HP.tb (x : HP w hb F h) : TB w := by
  obtain ⟨ab, mb, L, hx, _⟩ := x.ex
  exact hx.tb
theorem HP.ok (x : HP w hb F h) : h.Ok := by
  obtain ⟨ab, mb, L, hx, _⟩ := x.ex
  exact hx.ok
theorem HP.lt (x : HP w hb F h) : ∀ k, F k → k < w.heap.size := by
  obtain ⟨ab, mb, L, hx, hF⟩ := x.ex
  exact fun k hk => hx.lt k ((hF k).1 hk)
theorem HP.pos (x : HP w hb F h) : ∀ k, F k → 0 < k := by
  obtain ⟨ab, mb, L, hx, hF⟩ := x.ex
  exact fun k hk => hx.pos k ((hF k).1 hk)
theorem HP.fb (x : HP w hb F h) : F hb := by
  obtain ⟨ab, mb, L, hx, hF⟩ := x.ex
  exact (hF hb).2 (by simp [hBl])
theorem HP.kept {S : Nat → Prop} (x : HP w hb F h) (hk : Kept w w' S) (h0 : ¬ S 0) (hs : ∀ k, F k → ¬ S k) : HP w' hb F h := by
  obtain ⟨ab, mb, L, hx, hF⟩ := x.ex
  exact ⟨ab, mb, L, hx.kept hk h0 (fun k hk => hs k ((hF k).2 hk)), hF⟩
theorem HP.below (x : HP w hb F h) (hB : Below w.heap.size w w') : HP w' hb F h := x.kept (kept_of_below hB (fun _ => False)) id (fun _ _ => id)
theorem HP.stay (x : HP w hb F h) (hB : Below w.heap.size w w') : Goes w w' hb F h := ⟨⟨F, x.below hB, fun _ hk => Or.inl hk⟩, kept_of_below hB _⟩
theorem HX.fit {F : Nat → Prop} (hF : ∀ k, F k ↔ k ∈ hBl hb ab mb L) (x : Goes w w' hb (fun k => k ∈ hBl hb ab mb L) h') : Goes w w' hb F h' := by
  have e : F = (fun k => k ∈ hBl hb ab mb L) := funext fun k => propext (hF k)
  rw [e]
  exact x
end

end Go.Proofs.YtdafpfdmnccelaaDoor
