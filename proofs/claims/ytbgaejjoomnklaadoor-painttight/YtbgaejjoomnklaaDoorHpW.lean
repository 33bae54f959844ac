/- The plain heap: New, Make. -/
import Derived.Test.YtbgaejjoomnklaaDoorHpV
import Derived.Deep.RegionLaw
namespace Go.Proofs.YtbgaejjoomnklaaDoor
open Go.RowKit

theorem rnd_mk {rb ra rc rt : Nat} {lv : Value} {M : List Pl} (h1 : rb ≠ ra ∧ rb ≠ rc ∧ rb ≠ rt ∧ ra ≠ rc ∧ ra ≠ rt ∧ rc ≠ rt) (h2 : ∀ k, lv.ownBlock = some k → k ≠ rb ∧ k ≠ ra ∧ k ≠ rc ∧ k ≠ rt) (h3 : (M.flatMap Pl.bl3).Nodup) (h4 : ∀ k ∈ M.flatMap Pl.bl3, k ≠ rb ∧ k ≠ ra ∧ k ≠ rc ∧ k ≠ rt ∧ lv.ownBlock ≠ some k) : (rBl rb ra rc rt lv M).Nodup := by
  unfold rBl
  simp only [List.nodup_cons, List.mem_cons, List.mem_append, not_or, List.nodup_append, Option.mem_toList]
  obtain ⟨a1, a2, a3, a4, a5, a6⟩ := h1
  refine ⟨⟨a1, a2, a3, fun e => (h2 _ e).1 rfl, fun e => (h4 _ e).1 rfl⟩, ⟨a4, a5, fun e => (h2 _ e).2.1 rfl, fun e => (h4 _ e).2.1 rfl⟩, ⟨a6, fun e => (h2 _ e).2.2.1 rfl, fun e => (h4 _ e).2.2.1 rfl⟩, ⟨fun e => (h2 _ e).2.2.2 rfl, fun e => (h4 _ e).2.2.2.1 rfl⟩, ?_, h3, fun a ha b hb e => (h4 b hb).2.2.2.2 (e ▸ ha)⟩
  cases lv.ownBlock <;> simp

section
variable {w w1 W4 : World} {rb ra rc rt : Nat} {lv : Value} {h : HSt} {M : List Pl}
/-- Behind the arena gave a cell, the serial rose, and the object was laid. -/
theorem RX.makes (x : RX w rb ra rc rt lv h M) (r v : Nat) (hE : (h.makeR (r : Int) (v : Int)).2 = 0) (ha : RA w1 ra rc rt (allocL h.bs (1 + r + v))) (k1 : Kept w w1 (fun k => k = rc ∨ k = rt)) (kW : Kept w1 W4 (fun k => k = rb))
    (b4 : Row W4 rb 60 [.int .i64 (h.node : Int), .int .i64 (h.most : Int), .int .u64 ((h.last + 1 : Nat) : Int), .pointer (some ⟨ra, 0, none⟩), lv]) (p : Pl) (hpo : p.o = h.newO r v)
    (r1 : Row W4 p.pb 78 p.cells) (r2 : Row W4 p.rb 31 (idsV p.o.rf)) (r3 : Row W4 p.vb 26 (p.o.vl.map uV)) (g1 : w1.heap.size ≤ p.pb) (g2 : w1.heap.size ≤ p.rb) (g3 : w1.heap.size ≤ p.vb) (g4 : p.pb ≠ p.rb ∧ p.pb ≠ p.vb ∧ p.rb ≠ p.vb) :
    W4.ownsRow 0 117 1 lv M.length (M.map Pl.ptr) ∧ ∀ v' w', w'.ownsRow 0 117 1 v' (M.length + 1) (M.map Pl.ptr ++ [p.ptr]) → Kept W4 w' (fun k => lv.ownBlock = some k) → Moved W4 lv v' →
      Row w' rb 60 [.int .i64 (h.node : Int), .int .i64 (h.most : Int), .int .u64 ((h.last + 1 : Nat) : Int), .pointer (some ⟨ra, 0, none⟩), lv] ∧ RGoes w (w'.setCell ⟨rb, 4, none⟩ v') rb (fun k => k ∈ rBl rb ra rc rt lv M) (h.makeS (r : Int) (v : Int)) := by
  obtain ⟨a, n2, n3, n4⟩ := rnd_parts x.nd
  obtain ⟨a1, a2, a3, a4, a5, a6⟩ := a
  have hlt := x.lt
  have hs1 := k1.size
  have hs4 := kW.size
  have hrb := hlt rb (by simp [rBl])
  have hra := hlt ra (by simp [rBl])
  have hrc := hlt rc (by simp [rBl])
  have hrt := hlt rt (by simp [rBl])
  have hlvl : ∀ k, lv.ownBlock = some k → k < w.heap.size := fun k e => x.lsLt e
  have own4 : W4.ownsRow 0 117 1 lv M.length (M.map Pl.ptr) := own_kept (own_kept x.ls k1 (fun k e => by have := n2 k e; show ¬ (k = rc ∨ k = rt); omega)) kW (fun k e => by have := n2 k e; show ¬ (k = rb); omega)
  refine ⟨own4, fun v' w' ho' hk' hm' => ?_⟩
  have b5 : Row w' rb 60 [.int .i64 (h.node : Int), .int .i64 (h.most : Int), .int .u64 ((h.last + 1 : Nat) : Int), .pointer (some ⟨ra, 0, none⟩), lv] := b4.kept hk' (fun e => (n2 rb e).1 rfl)
  refine ⟨b5, ?_⟩
  have kS := Kept.setCell w' ⟨rb, 4, none⟩ v'
  have l1 := r1.lt
  have l2 := r2.lt
  have l3 := r3.lt
  have hv' : ∀ k, v'.ownBlock = some k → k ≠ rb ∧ k ≠ ra ∧ k ≠ rc ∧ k ≠ rt := fun k e => by
    rcases hm' k e with e | e
    · exact n2 k e
    · omega
  have hs : h.makeS (r : Int) (v : Int) = { h with last := h.last + 1, bs := allocL h.bs (1 + r + v), cs := h.cs ++ [h.newO r v] } := by
    unfold HSt.makeS
    rw [if_pos hE]
  have hflat : (M ++ [p]).flatMap Pl.bl3 = M.flatMap Pl.bl3 ++ [p.pb, p.rb, p.vb] := by
    rw [List.flatMap_append]
    simp [Pl.bl3]
  have hMlt : ∀ k ∈ M.flatMap Pl.bl3, k < w.heap.size := fun k hk => hlt k (by simp only [rBl, List.mem_cons, List.mem_append]; exact Or.inr (Or.inr (Or.inr (Or.inr (Or.inr hk)))))
  have x' : RX (w'.setCell ⟨rb, 4, none⟩ v') rb ra rc rt v' (h.makeS (r : Int) (v : Int)) (M ++ [p]) := by
    refine ⟨?_, ?_, ?_, fun q hq => ?_, ?_, ?_, x.ok.make _ _⟩
    · rw [hs]
      exact b5.set 4 v'
    · rw [hs]
      exact ((ha.kept kW (by show ¬ (ra = rb); omega) (by show ¬ (rc = rb); omega) (by show ¬ (rt = rb); omega)).kept hk' (fun e => (n2 ra e).2.1 rfl) (fun e => (n2 rc e).2.2.1 rfl) (fun e => (n2 rt e).2.2.2 rfl)).kept kS (by show ¬ (ra = rb); omega) (by show ¬ (rc = rb); omega) (by show ¬ (rt = rb); omega)
    · rw [List.length_append, List.map_append]
      exact own_kept ho' kS (fun k e => by have := hv' k e; show ¬ (k = rb); omega)
    · rcases List.mem_append.1 hq with hq | hq
      · have m1 := n4 q.pb (mem3 hq (by simp [Pl.bl3]))
        have m2 := n4 q.rb (mem3 hq (by simp [Pl.bl3]))
        have m3 := n4 q.vb (mem3 hq (by simp [Pl.bl3]))
        exact ⟨((((x.rows q hq).1.kept k1 (by show ¬ (q.pb = rc ∨ q.pb = rt); omega)).kept kW (by show ¬ (q.pb = rb); omega)).kept hk' m1.2.2.2.2).kept kS (by show ¬ (q.pb = rb); omega),
          ((((x.rows q hq).2.1.kept k1 (by show ¬ (q.rb = rc ∨ q.rb = rt); omega)).kept kW (by show ¬ (q.rb = rb); omega)).kept hk' m2.2.2.2.2).kept kS (by show ¬ (q.rb = rb); omega),
          ((((x.rows q hq).2.2.kept k1 (by show ¬ (q.vb = rc ∨ q.vb = rt); omega)).kept kW (by show ¬ (q.vb = rb); omega)).kept hk' m3.2.2.2.2).kept kS (by show ¬ (q.vb = rb); omega)⟩
      · rw [List.mem_singleton] at hq
        subst hq
        exact ⟨(r1.kept hk' (fun e => by have := hlvl _ e; omega)).kept kS (by show ¬ (q.pb = rb); omega), (r2.kept hk' (fun e => by have := hlvl _ e; omega)).kept kS (by show ¬ (q.rb = rb); omega), (r3.kept hk' (fun e => by have := hlvl _ e; omega)).kept kS (by show ¬ (q.vb = rb); omega)⟩
    · refine rnd_mk ⟨a1, a2, a3, a4, a5, a6⟩ hv' ?_ (fun k hk => ?_)
      · rw [hflat, List.nodup_append]
        refine ⟨n3, by simp; exact ⟨⟨g4.1, g4.2.1⟩, g4.2.2⟩, fun b hb c hc => ?_⟩
        have := hMlt b hb
        simp only [List.mem_cons, List.not_mem_nil, or_false] at hc
        omega
      · rw [hflat, List.mem_append] at hk
        rcases hk with hk | hk
        · have := n4 k hk
          have hkl := hMlt k hk
          refine ⟨this.1, this.2.1, this.2.2.1, this.2.2.2.1, fun e => ?_⟩
          rcases hm' k e with e | e
          · exact this.2.2.2.2 e
          · omega
        · simp only [List.mem_cons, List.not_mem_nil, or_false] at hk
          refine ⟨by omega, by omega, by omega, by omega, fun e => ?_⟩
          rcases hm' k e with e | e
          · have := hlvl k e
            omega
          · omega
    · rw [List.map_append, x.cs, hs]
      show h.cs ++ [p.o] = _
      rw [hpo]
  refine x'.goes (((k1.mono (fun k _ e => ?_)).trans kW (fun k _ e => ?_)).trans hk' (fun k _ e => ?_) |>.trans kS (fun k _ e => ?_)) (fun k hk => ?_)
  · rcases e with e | e <;> simp [rBl, e]
  · have e' : k = rb := e
    rw [e']
    simp [rBl]
  · exact memL e
  · have e' : k = rb := e
    rw [e']
    simp [rBl]
  · simp only [rBl, List.mem_cons, List.mem_append, Option.mem_toList, hflat] at hk ⊢
    rcases hk with e | e | e | e | e | e
    · exact Or.inl (Or.inl e)
    · exact Or.inl (Or.inr (Or.inl e))
    · exact Or.inl (Or.inr (Or.inr (Or.inl e)))
    · exact Or.inl (Or.inr (Or.inr (Or.inr (Or.inl e))))
    · rcases hm' k e with e | e
      · exact Or.inl (Or.inr (Or.inr (Or.inr (Or.inr (Or.inl e)))))
      · exact Or.inr (by omega)
    · rcases e with e | e
      · exact Or.inl (Or.inr (Or.inr (Or.inr (Or.inr (Or.inr e)))))
      · simp only [List.not_mem_nil, or_false] at e
        exact Or.inr (by omega)
end

/-- One pointer in a block of its own. -/
theorem sr_ptr (w : World) (v : Value) (hv : v.oneCell' = true) (T : TypeId) : Sr (w.alloc (.cells #[v] T)).drew (.slice (some ⟨w.heap.size, 0, none⟩) 1 1) 1 1 [v] := by
  refine ⟨rfl, Or.inr ⟨_, _, rfl, fun j u hu => ?_⟩, fun u hu => ?_⟩
  · have hj : j < 1 := by simpa using (List.getElem?_eq_some_iff.1 hu).1
    have hj0 : j = 0 := by omega
    subst hj0
    simp only [List.getElem?_cons_zero, Option.some.injEq] at hu
    subst hu
    rw [Addr.add_at]
    show (w.alloc (.cells #[v] T)).cell? _ = _
    rw [cell_of_row _ _ _ _ _ _ (heap_alloc_new w _)]
    rfl
  · rw [List.mem_singleton] at hu
    rw [hu]
    exact hv

set_option maxRecDepth 20000 in
set_option maxHeartbeats 1000000 in
theorem hrnew_no (node cells objects : Int) (last : Nat) (h : ¬ (1 ≤ node ∧ node ≤ 64) ∨ ¬ (1 ≤ objects ∧ objects ≤ 64) ∨ 72057594037927935 < last ∨ cells < 16 ∨ 4096 < cells ∨ cells % 16 ≠ 0) (w : World) :
    Calls Tryd.prog 40 #[.int .i64 node, .int .i64 cells, .int .i64 objects, .int .u64 (last : Int)] w fun e w' => e = .returned (.pointer none) ∧ w = w' := by
  by_cases h1 : node < 1
  · go_enter Tryd.func40, Tryd.ntmps40
    go_wp2
    go_ret
    exact ⟨rfl, rfl⟩
  by_cases h2 : 64 < node
  · go_enter Tryd.func40, Tryd.ntmps40
    go_wp2
    go_ret
    exact ⟨rfl, rfl⟩
  by_cases h3 : objects < 1
  · go_enter Tryd.func40, Tryd.ntmps40
    go_wp2
    go_ret
    exact ⟨rfl, rfl⟩
  by_cases h4 : 64 < objects
  · go_enter Tryd.func40, Tryd.ntmps40
    go_wp2
    go_ret
    exact ⟨rfl, rfl⟩
  by_cases h5 : 72057594037927935 < last
  · have h5i : (72057594037927935 : Int) < (last : Int) := by omega
    clear h h5
    go_enter Tryd.func40, Tryd.ntmps40
    go_wp2
    go_ret
    exact ⟨rfl, rfl⟩
  have h5i : (last : Int) ≤ 72057594037927935 := by omega
  have h5d : decide ((72057594037927935 : Int) < (last : Int)) = false := decide_eq_false (by omega)
  by_cases h6 : cells < 16
  · clear h h5
    go_enter Tryd.func40, Tryd.ntmps40
    go_wp2
    go_ret
    exact ⟨rfl, rfl⟩
  by_cases h7 : 4096 < cells
  · clear h h5
    go_enter Tryd.func40, Tryd.ntmps40
    go_wp2
    go_ret
    exact ⟨rfl, rfl⟩
  obtain ⟨m, rfl⟩ : ∃ m : Nat, cells = (m : Int) := ⟨cells.toNat, by omega⟩
  have hb : ((m : Int) % 16 != 0) = true := by rw [bne_iff_ne]; omega
  clear h h5
  go_enter Tryd.func40, Tryd.ntmps40
  go_wp2
  go_ret
  exact ⟨rfl, rfl⟩

set_option maxRecDepth 20000 in
set_option maxHeartbeats 1000000 in
theorem hrnew_ok (node n objects last : Nat) (h1 : 1 ≤ node ∧ node ≤ 64) (h2 : 1 ≤ objects ∧ objects ≤ 64) (h3 : last ≤ 72057594037927935) (h4 : 1 ≤ n ∧ n ≤ 256) (w : World) :
    Calls Tryd.prog 40 #[.int .i64 (node : Int), .int .i64 ((16 * n : Nat) : Int), .int .i64 (objects : Int), .int .u64 (last : Int)] w fun e w' => ∃ rb F, e = .returned (.pointer (some ⟨rb, 0, none⟩)) ∧ RP w' rb F ⟨node, objects, last, List.replicate n bk0, []⟩ ∧ (∀ k, F k → w.heap.size ≤ k) ∧ Below w.heap.size w w' := by
  have hN := rnew_any n h4.1 h4.2 w
  obtain ⟨N, hNe⟩ : ∃ N, N = 16 * n := ⟨_, rfl⟩
  rw [← hNe] at hN ⊢
  have i1 : (1 : Int) ≤ (node : Int) := by omega
  have i2 : (node : Int) ≤ 64 := by omega
  have i3 : (1 : Int) ≤ (objects : Int) := by omega
  have i4 : (objects : Int) ≤ 64 := by omega
  have i5 : (last : Int) ≤ 72057594037927935 := by omega
  have i5d : decide ((72057594037927935 : Int) < (last : Int)) = false := decide_eq_false (by omega)
  have i6 : (16 : Int) ≤ (N : Int) := by omega
  have i7 : (N : Int) ≤ 4096 := by omega
  have i8 : (N : Int) % 16 = 0 := by omega
  have HO : Hid (HSt.Ok ⟨node, objects, last, List.replicate n bk0, []⟩) := hidden (HSt.Ok.new h1.2 h2.2 h3 h4.2)
  clear hNe h1 h2 h3 h4
  go_enter Tryd.func40, Tryd.ntmps40
  go_wp2_with (go_at_call 59; refine hN.mono ?_; rintro e w1 ⟨ra, rc, rt, rfl, ha, hb1, g1, g2, g3⟩)
  go_ret
  have hz := hb1.size
  obtain ⟨l1, l2, l3⟩ := ha.lt
  have hA : Below w1.heap.size w1 (w1.alloc (.cells #[.int .i64 (node : Int), .int .i64 (objects : Int), .int .u64 (last : Int), .pointer (some ⟨ra, 0, none⟩), .slice none 0 0] 60)) := (Below.refl _ _).alloc (Nat.le_refl _) _
  have x : RX (w1.alloc (.cells #[.int .i64 (node : Int), .int .i64 (objects : Int), .int .u64 (last : Int), .pointer (some ⟨ra, 0, none⟩), .slice none 0 0] 60)) w1.heap.size ra rc rt (.slice none 0 0) ⟨node, objects, last, List.replicate n bk0, []⟩ [] := by
    refine ⟨heap_alloc_new w1 _, ha.below hA, ⟨rfl, Or.inl ⟨rfl, rfl⟩⟩, by simp, ?_, rfl, HO.out⟩
    obtain ⟨q1, q2, q3⟩ := ha.ne
    exact rnd_mk ⟨by omega, by omega, by omega, q1, q2, q3⟩ (fun k e => by simp [Value.ownBlock] at e) (by simp) (by simp)
  refine ⟨w1.heap.size, _, rfl, x.rp, fun k hk => ?_, hb1.trans (hA.mono hz)⟩
  simp [rBl, Value.ownBlock] at hk
  omega

end Go.Proofs.YtbgaejjoomnklaaDoor
