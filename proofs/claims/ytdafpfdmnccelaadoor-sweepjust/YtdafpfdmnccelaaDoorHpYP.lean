import Derived.Test.YtdafpfdmnccelaaDoorHpSP
import Derived.Deep.RegionHeld
import Derived.Test.YtdafpfdmnccelaaDoorHpOP
import Derived.Test.YtdafpfdmnccelaaDoorHpX
/- The plain heap: Free. -/
/- Both heaps side by side. -/
namespace Go.Proofs.YtdafpfdmnccelaaDoor
open Go.RowKit

theorem Tryd.infoPtr2 : (Tryd.prog.info? 67).map (fun i => (i.zero, i.size, i.bytes)) = some (some (.pointer none), 1, 8) := by kernel_rfl
theorem filter_split {M : List Pl} (hs : (M.map (·.o)).Pairwise (fun a b => a.s < b.s)) {k s : Nat} (hk : k < M.length) (e : M[k].o.s = s) : M.filter (fun p => p.o.s != s) = M.take k ++ M.drop (k + 1) := by
  have h1 : M = M.take k ++ M[k] :: M.drop (k + 1) := by
    rw [← List.drop_eq_getElem_cons hk, List.take_append_drop]
  rw [List.pairwise_map, List.pairwise_iff_getElem] at hs
  have hA : ∀ p ∈ M.take k, (p.o.s != s) = true := fun p hp => by
    obtain ⟨j, hj, rfl⟩ := List.mem_take_iff_getElem.1 hp
    have := hs j k (by omega) hk (by omega)
    rw [bne_iff_ne]
    omega
  have hB : ∀ p ∈ M.drop (k + 1), (p.o.s != s) = true := fun p hp => by
    obtain ⟨j, hj, rfl⟩ := List.mem_drop_iff_getElem.1 hp
    have := hs k (k + 1 + j) hk (by omega) (by omega)
    rw [bne_iff_ne]
    omega
  have h2 : M.filter (fun p => p.o.s != s) = (M.take k ++ M[k] :: M.drop (k + 1)).filter (fun p => p.o.s != s) := by rw [← h1]
  rw [h2, List.filter_append, List.filter_cons, if_neg (by simp [e]), List.filter_eq_self.2 hA, List.filter_eq_self.2 hB]
theorem sub_filter (M : List Pl) (s : Nat) : ((M.filter (fun p => p.o.s != s)).flatMap Pl.bl3).Sublist (M.flatMap Pl.bl3) := by
  induction M with
  | nil => exact List.Sublist.refl _
  | cons q l ih =>
    rw [List.filter_cons]
    split
    · rw [List.flatMap_cons, List.flatMap_cons]
      exact (List.Sublist.refl _).append ih
    · rw [List.flatMap_cons]
      exact ih.trans (List.sublist_append_right _ _)

section
variable {w w2 w9 : World} {rb ra rc rt : Nat} {lv v9 : Value} {h : HSt} {M : List Pl}
/-- An object less. -/
theorem RX.less (x : RX w rb ra rc rt lv h M) {s : Nat} {p : Pl} (hg : getP M s = some p) (ha : RA w2 ra rc rt (freeL h.bs (p.o.c : Int))) (k2 : Kept w w2 (fun k => k = rc ∨ k = rt)) (hB : Below w2.heap.size w2 w9)
    (ho : w9.ownsRow 0 67 1 v9 (M.filter (fun p => p.o.s != s)).length ((M.filter (fun p => p.o.s != s)).map Pl.ptr)) (hv : ∀ k, v9.ownBlock = some k → w2.heap.size ≤ k) :
    RGoes w (w9.setCell ⟨rb, 4, none⟩ v9) rb (fun k => k ∈ rBl rb ra rc rt lv M) (h.freeS s) := by
  obtain ⟨⟨a1, a2, a3, a4, a5, a6⟩, n2, n3, n4⟩ := rnd_parts x.nd
  have hlt := x.lt
  have hs2 := k2.size
  have hrb := hlt rb (by simp [rBl])
  have hra := hlt ra (by simp [rBl])
  have hrc := hlt rc (by simp [rBl])
  have hrt := hlt rt (by simp [rBl])
  have hgc : getC h.cs s = some p.o := by rw [x.get, hg]; rfl
  have hsS : h.freeS s = { h with bs := freeL h.bs (p.o.c : Int), cs := h.cs.filter (fun o => o.s != s) } := by
    unfold HSt.freeS
    rw [hgc]
  have kS := Kept.setCell w9 ⟨rb, 4, none⟩ v9
  have hb9 : Row w9 rb 58 [.int .i64 (h.node : Int), .int .i64 (h.most : Int), .int .u64 (h.last : Int), .pointer (some ⟨ra, 0, none⟩), lv] := (x.box.kept k2 (by show ¬ (rb = rc ∨ rb = rt); omega)).below hB
  have hsub := sub_filter M s
  have hMlt : ∀ k ∈ M.flatMap Pl.bl3, k < w.heap.size := fun k hk => hlt k (by simp only [rBl, List.mem_cons, List.mem_append]; exact Or.inr (Or.inr (Or.inr (Or.inr (Or.inr hk)))))
  have x' : RX (w9.setCell ⟨rb, 4, none⟩ v9) rb ra rc rt v9 (h.freeS s) (M.filter (fun p => p.o.s != s)) := by
    refine ⟨?_, ?_, ?_, fun q hq => ?_, ?_, ?_, x.ok.free s⟩
    · rw [hsS]
      exact hb9.set 4 v9
    · rw [hsS]
      exact (ha.below hB).kept kS (by show ¬ (ra = rb); omega) (by show ¬ (rc = rb); omega) (by show ¬ (rt = rb); omega)
    · exact own_kept ho kS (fun k e => by have := hv k e; show ¬ (k = rb); omega)
    · have hq := (List.mem_filter.1 hq).1
      have m1 := n4 q.pb (mem3 hq (by simp [Pl.bl3]))
      have m2 := n4 q.rb (mem3 hq (by simp [Pl.bl3]))
      have m3 := n4 q.vb (mem3 hq (by simp [Pl.bl3]))
      exact ⟨(((x.rows q hq).1.kept k2 (by show ¬ (q.pb = rc ∨ q.pb = rt); omega)).below hB).kept kS (by show ¬ (q.pb = rb); omega), (((x.rows q hq).2.1.kept k2 (by show ¬ (q.rb = rc ∨ q.rb = rt); omega)).below hB).kept kS (by show ¬ (q.rb = rb); omega), (((x.rows q hq).2.2.kept k2 (by show ¬ (q.vb = rc ∨ q.vb = rt); omega)).below hB).kept kS (by show ¬ (q.vb = rb); omega)⟩
    · refine rnd_mk ⟨a1, a2, a3, a4, a5, a6⟩ (fun k e => by have := hv k e; omega) (n3.sublist hsub) (fun k hk => ?_)
      have hk' := hsub.subset hk
      have := n4 k hk'
      have hkl := hMlt k hk'
      exact ⟨this.1, this.2.1, this.2.2.1, this.2.2.2.1, fun e => by have := hv k e; omega⟩
    · rw [hsS, ← x.cs, List.filter_map]
      rfl
  refine x'.goes (((k2.mono (fun k _ e => by rcases e with e | e <;> simp [rBl, e]) : Kept w w2 (fun k => k ∈ rBl rb ra rc rt lv M)) |>.trans (kept_of_below hB (fun _ => False)) (fun _ _ e => e.elim)).trans kS (fun k _ e => ?_)) (fun k hk => ?_)
  · have e' : k = rb := e
    rw [e']
    simp [rBl]
  · simp only [rBl, List.mem_cons, List.mem_append, Option.mem_toList] at hk ⊢
    rcases hk with e | e | e | e | e | e
    · exact Or.inl (Or.inl e)
    · exact Or.inl (Or.inr (Or.inl e))
    · exact Or.inl (Or.inr (Or.inr (Or.inl e)))
    · exact Or.inl (Or.inr (Or.inr (Or.inr (Or.inl e))))
    · have := hv k e
      exact Or.inr (by omega)
    · exact Or.inl (Or.inr (Or.inr (Or.inr (Or.inr (Or.inr (hsub.subset e))))))
end
/-- A list of pointers, cut ahead and behind. -/
theorem pl_pre {W : World} {g cap : Nat} {M : List Pl} (hc : ∀ j (hj : j < M.length), W.cell? ⟨g, j, none⟩ = some (.pointer (some ⟨M[j].pb, 0, none⟩))) (k : Nat) (hk : k ≤ M.length) : Sr W (.slice (some ⟨g, 0, none⟩) k cap) 1 k ((M.take k).map Pl.ptr) := by
  refine ⟨by simp; omega, Or.inr ⟨_, _, rfl, fun j u hu => ?_⟩, fun u hu => ?_⟩
  · have hj : j < k := by have := (List.getElem?_eq_some_iff.1 hu).1; simp at this; omega
    rw [Addr.add_at, Nat.zero_add, hc j (by omega)]
    rw [List.getElem?_map, List.getElem?_take_of_lt hj, List.getElem?_eq_getElem (by omega)] at hu
    simpa [Pl.ptr] using hu
  · obtain ⟨q, _, rfl⟩ := List.mem_map.1 hu
    rfl
theorem pl_post {W : World} {g : Nat} {M : List Pl} (hc : ∀ j (hj : j < M.length), W.cell? ⟨g, j, none⟩ = some (.pointer (some ⟨M[j].pb, 0, none⟩))) (k : Nat) (hk : k ≤ M.length) (c : Nat) : Sr W (.slice (some ⟨g, k, none⟩) (M.length - k) c) 1 (M.length - k) ((M.drop k).map Pl.ptr) := by
  refine ⟨by simp, Or.inr ⟨_, _, rfl, fun j u hu => ?_⟩, fun u hu => ?_⟩
  · have hj : j < M.length - k := by have := (List.getElem?_eq_some_iff.1 hu).1; simpa using this
    rw [Addr.add_at, hc (k + j) (by omega)]
    rw [List.getElem?_map, List.getElem?_drop, List.getElem?_eq_getElem (by omega)] at hu
    simpa [Pl.ptr] using hu
  · obtain ⟨q, _, rfl⟩ := List.mem_map.1 hu
    rfl
theorem sr_nil (w : World) (ad : Addr) (n c : Nat) (hn : n = 0) : Sr w (.slice (some ad) n c) 1 0 [] := by
  subst hn
  exact ⟨rfl, Or.inr ⟨ad, c, rfl, fun j u hu => by simp at hu⟩, by simp⟩
theorem own_nil {w : World} {T : TypeId} {c base g : Nat} (hg : w.heap[g]? = some (.cells #[] T (0, 0))) (hb : base ≤ g) : w.ownsRow base T c (.slice (some ⟨g, 0, none⟩) 0 0) 0 [] :=
  ⟨by simp, Or.inr ⟨g, 0, #[], rfl, hb, hg, Nat.le_refl _, Nat.zero_le _, by simp, by simp⟩⟩
theorem own_ge {w : World} {base c n k : Nat} {e : TypeId} {v : Value} {xs : List Value} (h : w.ownsRow base e c v n xs) (hk : v.ownBlock = some k) : base ≤ k := by
  rcases h.2 with ⟨rfl, _⟩ | ⟨g, cap, cur, rfl, h2, h3⟩
  · simp [Value.ownBlock] at hk
  · simp only [Value.ownBlock, Option.some.injEq] at hk
    omega
theorem own_zero {w : World} {base c n : Nat} {e : TypeId} {v : Value} {xs : List Value} (h : w.ownsRow base e c v n xs) : w.ownsRow 0 e c v n xs := by
  refine ⟨h.1, ?_⟩
  rcases h.2 with h1 | ⟨g, cap, cur, h1, h2, h3⟩
  · exact Or.inl h1
  · exact Or.inr ⟨g, cap, cur, h1, Nat.zero_le _, h3⟩

section
variable {w : World} {rb ra rc rt : Nat} {lv : Value} {h : HSt} {M : List Pl}
set_option maxRecDepth 20000 in
set_option maxHeartbeats 4000000 in
theorem rfreeH_any (x : RX w rb ra rc rt lv h M) (s : Nat) :
    Calls Tryd.prog 20 #[.pointer (some ⟨rb, 0, none⟩), .int .u64 (s : Int)] w fun e w' => e = .returned (.int .i64 (h.freeR s : Int)) ∧ RGoes w w' rb (fun k => k ∈ rBl rb ra rc rt lv M) (h.freeS s) := by
  have c3 := x.c3
  have c4 := x.c4
  have hfew := x.few
  obtain ⟨ao, cap, hlv, hcap, hmax, _⟩ := x.slice
  go_enter Tryd.func20, Tryd.ntmps20
  go_wp2
  go_loop [5] (fun i => ∃ k : Nat, k ≤ M.length ∧ i = .int .i64 (k : Int) ∧ ∀ p ∈ M.take k, p.o.s ≠ s) (fun i => M.length - (intOf i).toNat)
  case atStart => exact ⟨0, Nat.zero_le _, rfl, by simp⟩
  case round =>
    obtain ⟨k, hk, rfl, h0⟩ := hrel
    by_cases hlt : (k : Int) < (M.length : Int)
    · have hkl : k < M.length := by omega
      obtain ⟨g, cap', hlv', hcap', hgl, hat⟩ := x.at k hkl
      have hcc : cap' ≤ maxLen := by
        rw [hlv] at hlv'
        simp only [Value.slice.injEq] at hlv'
        omega
      clear hlv hcap hmax
      subst hlv'
      have hc := hat k hkl
      have hs := x.pc (List.getElem_mem hkl) 0 _ rfl
      have hs1 := x.pc (List.getElem_mem hkl) 1 _ rfl
      have HK : Hid (k + 1 ≤ M.length) := by
        have e : k + 1 ≤ M.length := by omega
        exact e
      have HT : Hid (¬ M[k].o.s = s → ∀ p ∈ M.take (k + 1), p.o.s ≠ s) := fun e => take_pl (q := fun p => p.o.s ≠ s) hkl h0 e
      have HF : Hid (M[k].o.s = s → getP M s = some M[k]) := fun e => getP_first hkl h0 e
      by_cases he : M[k].o.s = s
      · have hei : ((M[k].o.s : Int) == (s : Int)) = true := by rw [beq_iff_eq]; omega
        have hg := HF.out he
        have hfs := filter_split x.srt hkl he
        have hgc : getC h.cs s = some M[k].o := by rw [x.get, hg]; rfl
        have hR : h.freeR s = 0 := by
          unfold HSt.freeR
          rw [hgc, if_pos (by simp)]
        have HR : Hid _ := hidden hR
        have hfl := x.fl (List.getElem_mem hkl)
        have hFr := rfree_any ra rc rt h.bs (M[k].o.c : Int) (by omega) x.ok.ao w.drew (x.below ((Below.refl _ _).drew)).ar
        have k0 : Kept w w.drew (fun k => k = rc ∨ k = rt) := (Kept.drew w).mono (fun _ _ e => e.elim)
        obtain ⟨⟨a1, a2, a3, a4, a5, a6⟩, n2, n3, n4⟩ := rnd_parts x.nd
        have ng := n2 g rfl
        have hrow : ∀ w1, Kept w w1 (fun k => k = rc ∨ k = rt) → Row w1 rb 58 [.int .i64 (h.node : Int), .int .i64 (h.most : Int), .int .u64 (h.last : Int), .pointer (some ⟨ra, 0, none⟩), .slice (some ⟨g, 0, none⟩) M.length cap'] := fun w1 k1 => x.box.kept k1 (by show ¬ (rb = rc ∨ rb = rt); omega)
        have hcell : ∀ w1, Kept w w1 (fun k => k = rc ∨ k = rt) → ∀ j (hj : j < M.length), w1.cell? ⟨g, j, none⟩ = some (.pointer (some ⟨M[j].pb, 0, none⟩)) := fun w1 k1 j hj => (World.cell?_of_block (a := ⟨g, j, none⟩) (k1.block g hgl (by show ¬ (g = rc ∨ g = rt); omega))).trans (hat j hj)
        have HL : Hid (∀ w2 w9 v9, RA w2 ra rc rt (freeL h.bs (M[k].o.c : Int)) → Kept w w2 (fun k => k = rc ∨ k = rt) → Below w2.heap.size w2 w9 → w9.ownsRow w2.heap.size 67 1 v9 (k + (M.length - (k + 1))) ((M.take k).map Pl.ptr ++ (M.drop (k + 1)).map Pl.ptr) → RGoes w (w9.setCell ⟨rb, 4, none⟩ v9) rb (fun k => k ∈ rBl rb ra rc rt (.slice (some ⟨g, 0, none⟩) M.length cap') M) (h.freeS s)) := fun w2 w9 v9 ha k2 hB ho => by
          refine x.less hg ha k2 hB ?_ (fun k e => own_ge ho e)
          have e1 : (M.filter (fun p => p.o.s != s)).length = k + (M.length - (k + 1)) := by
            rw [hfs, List.length_append, List.length_take, List.length_drop]; omega
          rw [e1, hfs, List.map_append]
          exact own_zero ho
        have hr3 : ∀ w1, Kept w w1 (fun k => k = rc ∨ k = rt) → w1.cell? ⟨rb, 3, none⟩ = some (.pointer (some ⟨ra, 0, none⟩)) := fun w1 k1 => (hrow w1 k1).cell 3 (by simp)
        have hr4 : ∀ w1, Kept w w1 (fun k => k = rc ∨ k = rt) → w1.cell? ⟨rb, 4, none⟩ = some (.slice (some ⟨g, 0, none⟩) M.length cap') := fun w1 k1 => (hrow w1 k1).cell 4 (by simp)
        have hgk : ∀ w1, Kept w w1 (fun k => k = rc ∨ k = rt) → w1.cell? ⟨g, k, none⟩ = some (.pointer (some ⟨M[k].pb, 0, none⟩)) := fun w1 k1 => hcell w1 k1 k hkl
        have hpc : ∀ w1, Kept w w1 (fun k => k = rc ∨ k = rt) → w1.cell? ⟨M[k].pb, 1, none⟩ = some (.int .i64 (M[k].o.c : Int)) := fun w1 k1 => by
          have m1 := n4 M[k].pb (mem3 (List.getElem_mem hkl) List.mem_cons_self)
          exact ((x.rows _ (List.getElem_mem hkl)).1.kept k1 (by show ¬ (M[k].pb = rc ∨ M[k].pb = rt); omega)).at 1 _ rfl
        have HC : Hid (∀ w1, Kept w w1 (fun k => k = rc ∨ k = rt) → Sr w1 (.slice (some ⟨g, 0, none⟩) k cap') 1 k ((M.take k).map Pl.ptr) ∧ ∀ c, Sr w1 (.slice (some ⟨g, k + 1, none⟩) (M.length - (k + 1)) c) 1 (M.length - (k + 1)) ((M.drop (k + 1)).map Pl.ptr)) := fun w1 k1 => ⟨pl_pre (hcell w1 k1) k (by omega), pl_post (hcell w1 k1) (k + 1) (by omega)⟩
        clear hcell
        obtain ⟨ip, hip, hp0, hp1, hp2⟩ := info_parts Tryd.infoPtr2
        have hki : (k : Int) ≤ (cap' : Int) := by omega
        have hkn1 : (k : Int) + 1 ≤ (M.length : Int) := by omega
        have hkn0 : (0 : Int) ≤ (k : Int) + 1 := by omega
        have hwk : IntKind.i64.wrap ((k : Int) + 1) = (k : Int) + 1 := by rw [IntKind.wrap_i64]; omega
        have hlt' : (k : Int) ≤ (M.length : Int) := by omega
        clear hR HF HT hgc hg hfs hat h0 x n2 n3 n4
        generalize hfc : freeR h.bs (M[k].o.c : Int) = fr at *
        clear hfc
        generalize freeL h.bs (M[k].o.c : Int) = bs1 at *
        generalize M[k].o.s = s0 at *
        generalize M[k].o.c = cc at *
        generalize M[k].pb = pb at *
        go_wp2
        go_region_held (fun W => W.cell? ⟨rb, 3, none⟩ = some (.pointer (some ⟨ra, 0, none⟩)) ∧ W.cell? ⟨rb, 4, none⟩ = some (.slice (some ⟨g, 0, none⟩) M.length cap') ∧ W.cell? ⟨g, k, none⟩ = some (.pointer (some ⟨pb, 0, none⟩)) ∧ W.cell? ⟨pb, 1, none⟩ = some (.int .i64 (cc : Int))) (go_keep) ((go_at_call 55; refine hFr.mono ?_; clear hFr; rintro e w2 ⟨rfl, ha2, hk2'⟩; have hk2 := k0.trans hk2' (fun _ _ e => e); clear hk2'; have d3 := hr3 w2 hk2; have d4 := hr4 w2 hk2; have dg := hgk w2 hk2; have dp := hpc w2 hk2))
        all_goals
          clear hr3 hr4 hgk hpc d3 dg dp k0 c3 c4 hc hs hs1
          have f4 := (hrow w2 hk2).frozen 4
          have hz := (hrow w2 hk2).lt
          have hrw := hrow w2 hk2
          clear hrow
          obtain ⟨hp1s, hp2s⟩ := HC.out w2 hk2
          have q1 : ∀ o, Below w2.heap.size w2 (w2.alloc o).drew := fun o => ((Below.refl _ _).alloc (Nat.le_refl _) o).drew
          have hE1 : (w2.alloc (.cells #[] 67)).drew.heap[w2.heap.size]? = some (.cells #[] 67 (0, 0)) := heap_alloc_new w2 _
          have HZ : Hid (∀ (w9 : World) (v9 : Value), Below w2.heap.size w2 w9 → w9.ownsRow w2.heap.size 67 1 v9 (k + (M.length - (k + 1))) ((M.take k).map Pl.ptr ++ (M.drop (k + 1)).map Pl.ptr) → RGoes w (w9.setCell ⟨rb, 4, none⟩ v9) rb (fun k => k ∈ rBl rb ra rc rt (.slice (some ⟨g, 0, none⟩) M.length cap') M) (h.freeS s)) := fun w9 v9 hB ho => HL.out w2 w9 v9 ha2 hk2 hB ho
          have HV : Hid (∀ w9, Below w2.heap.size w2 w9 → w9.cell? ⟨rb, 4, none⟩ = some (.slice (some ⟨g, 0, none⟩) M.length cap') ∧ w9.frozen? ⟨rb, 4, none⟩ = false) := fun w9 hB => ⟨(hrw.below hB).cell 4 (by simp), (hrw.below hB).frozen 4⟩
          clear hrw
          by_cases hcq : cap' = k + 1
          · have HN1 : Hid (M.length - (k + 1) = 0) := by
              have e : M.length - (k + 1) = 0 := by omega
              exact e
            have HD : Hid (M.drop (k + 1) = []) := by
              have e : M.drop (k + 1) = [] := List.drop_of_length_le (by omega)
              exact e
            subst hcq
            have hkk : (k : Int) ≤ (k : Int) + 1 := by omega
            go_wp2
            go_region_law (first
              | (refine step_append_sr rfl (.tmp 43) (.tmp 49) 56 rfl 67 ip (.pointer none) 1 8 Tryd.underlying56 hip hp0 hp1 hp2 rfl (by omega) w2.heap.size (.slice (some ⟨w2.heap.size, 0, none⟩) 0 0) 0 [] rfl (own_nil hE1 (Nat.le_refl _)) _ k _ rfl (hp1s.below (q1 _)) (by omega) (by omega) (by simp [World.drew]) ?_; intro v8 w8 ho8 hk8 _; obtain ⟨ao8, n8, c8, hv8⟩ := own_form ho8; subst hv8; have hb8 : Below w2.heap.size w2 w8 := (q1 _).trans (hk8.below (by simp [World.drew]) (fun j hj e => by simp only [Value.ownBlock, Option.some.injEq] at e; omega)); have hs8 := hb8.size; obtain ⟨e8, f8⟩ := HV.out w8 hb8)
              | (refine step_append_sr rfl (.tmp 50) (.tmp 57) 56 rfl 67 ip (.pointer none) 1 8 Tryd.underlying56 hip hp0 hp1 hp2 rfl (by omega) w2.heap.size _ (0 + k) _ rfl ho8 _ 0 [] rfl (sr_nil _ _ _ _ (by have := HN1.out; omega)) (by omega) (by omega) (by omega) ?_; intro v9 w9 ho9 hk9 _; obtain ⟨ao9, n9, c9, hv9⟩ := own_form ho9; subst hv9; have hb9 : Below w2.heap.size w2 w9 := hb8.trans (hk9.below hs8 (fun j hj e => by have := own_ge ho8 e; omega)); obtain ⟨e9, f9⟩ := HV.out w9 hb9))
            all_goals
              go_simp
              go_wp2
              go_ret
              rw [HR.out]
              refine ⟨rfl, HZ.out _ _ hb9 ?_⟩
              rw [HN1.out, HD.out]
              rw [Nat.zero_add, List.nil_append] at ho9
              exact ho9
          · have hkc2 : ¬ cap' = k + 1 := hcq
            have hkc3 : ¬ cap' - (k + 1) = 0 := by omega
            go_wp2
            go_region_law (first
              | (refine step_append_sr rfl (.tmp 43) (.tmp 49) 56 rfl 67 ip (.pointer none) 1 8 Tryd.underlying56 hip hp0 hp1 hp2 rfl (by omega) w2.heap.size (.slice (some ⟨w2.heap.size, 0, none⟩) 0 0) 0 [] rfl (own_nil hE1 (Nat.le_refl _)) _ k _ rfl (hp1s.below (q1 _)) (by omega) (by omega) (by simp [World.drew]) ?_; intro v8 w8 ho8 hk8 _; obtain ⟨ao8, n8, c8, hv8⟩ := own_form ho8; subst hv8; have hb8 : Below w2.heap.size w2 w8 := (q1 _).trans (hk8.below (by simp [World.drew]) (fun j hj e => by simp only [Value.ownBlock, Option.some.injEq] at e; omega)); have hs8 := hb8.size; obtain ⟨e8, f8⟩ := HV.out w8 hb8)
              | (refine step_append_sr rfl (.tmp 50) (.tmp 57) 56 rfl 67 ip (.pointer none) 1 8 Tryd.underlying56 hip hp0 hp1 hp2 rfl (by omega) w2.heap.size _ (0 + k) _ rfl ho8 _ (M.length - (k + 1)) _ rfl ((hp2s _).below hb8) (by omega) (by omega) (by omega) ?_; intro v9 w9 ho9 hk9 _; obtain ⟨ao9, n9, c9, hv9⟩ := own_form ho9; subst hv9; have hb9 : Below w2.heap.size w2 w9 := hb8.trans (hk9.below hs8 (fun j hj e => by have := own_ge ho8 e; omega)); obtain ⟨e9, f9⟩ := HV.out w9 hb9))
            all_goals
              go_simp
              go_wp2
              go_ret
              rw [HR.out]
              refine ⟨rfl, HZ.out _ _ hb9 ?_⟩
              rw [Nat.zero_add, List.nil_append] at ho9
              exact ho9
      · have hei : ((M[k].o.s : Int) == (s : Int)) = false := by rw [beq_eq_false_iff_ne]; omega
        have HT' : Hid _ := hidden (HT.out he)
        clear x hat h0
        generalize M[k].o.s = s0 at *
        generalize M[k].pb = pb at *
        clear he HF HT
        go_wp2
        go_round
        case rel => exact ⟨k + 1, HK.out, by go_num, HT'.out⟩
        case measure => have := HK.out; simp [intOf]; omega
    · have hG : getP M s = none := getP_none (fun p hp => h0 p (by rw [List.take_of_length_le (by omega)]; exact hp))
      have hgc : getC h.cs s = none := by rw [x.get, hG]; rfl
      have e1 : h.freeR s = 5 := by
        unfold HSt.freeR
        rw [hgc, if_neg (by simp)]
      have e2 : h.freeS s = h := by
        unfold HSt.freeS
        rw [hgc]
      have HR : Hid _ := hidden e1
      have HS : Hid _ := hidden e2
      have hxp := x.rp
      subst hlv
      clear x h0 hG hgc e1 e2
      go_wp2
      go_ret
      rw [HR.out, HS.out]
      exact ⟨rfl, hxp.stay (Below.refl _ _)⟩
end

end Go.Proofs.YtdafpfdmnccelaaDoor

namespace Go.Proofs.YtdafpfdmnccelaaDoor
open Go.RowKit

section
variable {w : World} {rb : Nat} {h : HSt} {F : Nat → Prop}
theorem RP.make (x : RP w rb F h) (r v : Int) :
    Calls Tryd.prog 18 #[.pointer (some ⟨rb, 0, none⟩), .int .i64 r, .int .i64 v] w fun e w' => e = .returned (.tuple #[.int .u64 ((h.makeR r v).1 : Int), .int .i64 ((h.makeR r v).2 : Int)]) ∧ RGoes w w' rb F (h.makeS r v) := by
  obtain ⟨ra, rc, rt, lv, M, hx, hF⟩ := x.ex
  exact (rmake_any hx r v).mono (fun _ _ ⟨h1, h2⟩ => ⟨h1, RX.fit hF h2⟩)
theorem RP.setRef (x : RP w rb F h) (s : Nat) (f : Int) (a : Int) (n : Nat) :
    Calls Tryd.prog 31 #[.pointer (some ⟨rb, 0, none⟩), .int .u64 (s : Int), .int .i64 f, .agg #[.int .i64 a, .int .u64 (n : Int)]] w fun e w' => e = .returned (.tuple #[.agg #[.int .i64 (h.setRefR s f (a, n)).1.1, .int .u64 ((h.setRefR s f (a, n)).1.2 : Int)], .int .i64 ((h.setRefR s f (a, n)).2 : Int)]) ∧ RGoes w w' rb F (h.setRefS s f (a, n)) := by
  obtain ⟨ra, rc, rt, lv, M, hx, hF⟩ := x.ex
  exact (rsetref_any hx s f a n).mono (fun _ _ ⟨h1, h2⟩ => ⟨h1, RX.fit hF h2⟩)
theorem RP.setIn (x : RP w rb F h) (s : Nat) (d : Int) :
    Calls Tryd.prog 34 #[.pointer (some ⟨rb, 0, none⟩), .int .u64 (s : Int), .int .i64 d] w fun e w' => e = .returned (.int .i64 (h.setInR s d : Int)) ∧ RGoes w w' rb F (h.setInS s d) := by
  obtain ⟨ra, rc, rt, lv, M, hx, hF⟩ := x.ex
  exact (rsetin_any hx s d).mono (fun _ _ ⟨h1, h2⟩ => ⟨h1, RX.fit hF h2⟩)
theorem RP.free (x : RP w rb F h) (s : Nat) :
    Calls Tryd.prog 20 #[.pointer (some ⟨rb, 0, none⟩), .int .u64 (s : Int)] w fun e w' => e = .returned (.int .i64 (h.freeR s : Int)) ∧ RGoes w w' rb F (h.freeS s) := by
  obtain ⟨ra, rc, rt, lv, M, hx, hF⟩ := x.ex
  exact (rfreeH_any hx s).mono (fun _ _ ⟨h1, h2⟩ => ⟨h1, RX.fit hF h2⟩)
theorem RP.ref (x : RP w rb F h) (s : Nat) (f : Int) :
    Calls Tryd.prog 65 #[.pointer (some ⟨rb, 0, none⟩), .int .u64 (s : Int), .int .i64 f] w fun e w' => e = .returned (.tuple #[.agg #[.int .i64 (refR h.cs s f).1.1, .int .u64 ((refR h.cs s f).1.2 : Int)], .int .i64 ((refR h.cs s f).2 : Int)]) ∧ RGoes w w' rb F (h) := by
  obtain ⟨ra, rc, rt, lv, M, hx, hF⟩ := x.ex
  exact (rref_any hx s f).mono (fun _ _ ⟨h1, h2⟩ => ⟨h1, x.stay h2⟩)
theorem RP.next (x : RP w rb F h) (s : Nat) :
    Calls Tryd.prog 56 #[.pointer (some ⟨rb, 0, none⟩), .int .u64 (s : Int)] w fun e w' => e = .returned (.tuple #[.int .u64 ((nextR h.cs s).1 : Int), .bool (nextR h.cs s).2]) ∧ RGoes w w' rb F (h) := by
  obtain ⟨ra, rc, rt, lv, M, hx, hF⟩ := x.ex
  exact (rnext_any hx s).mono (fun _ _ ⟨h1, h2⟩ => ⟨h1, by rw [← h2]; exact x.stay (Below.refl _ _)⟩)
end

/-- Both heaps, whose blocks lie from B on, apart, and are none of X's. -/
structure H2 (w0 : World) (B : Nat) (w : World) (hb rb : Nat) (h1 h2 : HSt) (X : Nat → Prop) : Prop where
  ex : ∃ F G, HP w hb F h1 ∧ RP w rb G h2 ∧ (∀ k, F k → B ≤ k ∧ ¬ X k ∧ ¬ G k) ∧ (∀ k, G k → B ≤ k ∧ ¬ X k)
  bel : Below B w0 w
  le : B ≤ w.heap.size
  xs : ∀ k, X k → k < w.heap.size
  pos : 0 < B
section
variable {w0 w w' : World} {B hb rb : Nat} {h1 h2 h' : HSt} {X : Nat → Prop}
theorem H2.hgo (x : H2 w0 B w hb rb h1 h2 X) {P : Program} {n : Nat} {args : Array Value} {r : Ending} (f : ∀ F, HP w hb F h1 → Calls P n args w fun e w' => e = r ∧ Goes w w' hb F h') : Calls P n args w fun e w' => e = r ∧ H2 w0 B w' hb rb h' h2 X ∧ Kept w w' (Its B X) := by
  obtain ⟨F, G, hp, rp, hF, hG⟩ := x.ex
  refine (f F hp).mono ?_
  rintro e w' ⟨he, hg⟩
  obtain ⟨F', hp', hF'⟩ := hg.ex
  have hlt := rp.lt
  have hle := x.le
  have hX := x.xs
  refine ⟨he, ⟨⟨F', G, hp', rp.kept hg.kept (fun k a b => (hF k b).2.2 a), fun k hk => ?_, hG⟩, x.bel.trans (hg.kept.below x.le (fun i hi e => ?_)), Nat.le_trans x.le hg.kept.size, fun k e => Nat.lt_of_lt_of_le (x.xs k e) hg.kept.size, x.pos⟩, hg.kept.mono (fun k _ e => ⟨(hF k e).1, (hF k e).2.1⟩)⟩
  · rcases hF' k hk with a | a
    · exact hF k a
    · exact ⟨by omega, fun e => by have := hX k e; omega, fun e => by have := hlt k e; omega⟩
  · have := (hF i e).1
    omega
theorem H2.rgo (x : H2 w0 B w hb rb h1 h2 X) {P : Program} {n : Nat} {args : Array Value} {r : Ending} (f : ∀ F, RP w rb F h2 → Calls P n args w fun e w' => e = r ∧ RGoes w w' rb F h') : Calls P n args w fun e w' => e = r ∧ H2 w0 B w' hb rb h1 h' X ∧ Kept w w' (Its B X) := by
  obtain ⟨F, G, hp, rp, hF, hG⟩ := x.ex
  refine (f G rp).mono ?_
  rintro e w' ⟨he, hg⟩
  obtain ⟨G', rp', hG'⟩ := hg.ex
  have hlt := hp.lt
  have hle := x.le
  have hX := x.xs
  have hpos := x.pos
  refine ⟨he, ⟨⟨F, G', hp.kept hg.kept (fun e => by have := (hG 0 e).1; omega) (fun k a b => (hF k a).2.2 b), rp', fun k hk => ⟨(hF k hk).1, (hF k hk).2.1, fun e => ?_⟩, fun k hk => ?_⟩, x.bel.trans (hg.kept.below x.le (fun i hi e => ?_)), Nat.le_trans x.le hg.kept.size, fun k e => Nat.lt_of_lt_of_le (x.xs k e) hg.kept.size, x.pos⟩, hg.kept.mono (fun k _ e => hG k e)⟩
  · rcases hG' k e with a | a
    · exact (hF k hk).2.2 a
    · have := hlt k hk
      omega
  · rcases hG' k hk with a | a
    · exact hG k a
    · exact ⟨by omega, fun e => by have := hX k e; omega⟩
  · have := (hG i e).1
    omega
theorem H2.read (x : H2 w0 B w hb rb h1 h2 X) (hB : Below w.heap.size w w') : H2 w0 B w' hb rb h1 h2 X := by
  obtain ⟨F, G, hp, rp, hF, hG⟩ := x.ex
  exact ⟨⟨F, G, hp.below hB, rp.below hB, hF, hG⟩, x.bel.trans (hB.mono x.le), Nat.le_trans x.le hB.size, fun k e => Nat.lt_of_lt_of_le (x.xs k e) hB.size, x.pos⟩
theorem H2.box (x : H2 w0 B w hb rb h1 h2 X) (o : Obj) : H2 w0 B (w.alloc o) hb rb h1 h2 (fun k => X k ∨ k = w.heap.size) := by
  obtain ⟨F, G, hp, rp, hF, hG⟩ := x.ex
  have hlt := hp.lt
  have hlr := rp.lt
  have hB : Below w.heap.size w (w.alloc o) := (Below.refl _ _).alloc (Nat.le_refl _) o
  refine ⟨⟨F, G, hp.below hB, rp.below hB, fun k hk => ⟨(hF k hk).1, fun e => ?_, (hF k hk).2.2⟩, fun k hk => ⟨(hG k hk).1, fun e => ?_⟩⟩, x.bel.trans (hB.mono x.le), Nat.le_trans x.le hB.size, fun k e => ?_, x.pos⟩
  · rcases e with e | e
    · exact (hF k hk).2.1 e
    · have := hlt k hk
      omega
  · rcases e with e | e
    · exact (hG k hk).2 e
    · have := hlr k hk
      omega
  · rcases e with e | e
    · exact Nat.lt_of_lt_of_le (x.xs k e) hB.size
    · simp [e]
theorem H2.other (x : H2 w0 B w hb rb h1 h2 X) {S : Nat → Prop} (hk : Kept w w' S) (hS : ∀ k, S k → X k ∧ B ≤ k) : H2 w0 B w' hb rb h1 h2 X := by
  obtain ⟨F, G, hp, rp, hF, hG⟩ := x.ex
  have hpos := x.pos
  exact ⟨⟨F, G, hp.kept hk (fun e => by have := (hS 0 e).2; omega) (fun k a b => (hF k a).2.1 (hS k b).1), rp.kept hk (fun k a b => (hG k a).2 (hS k b).1), hF, hG⟩, x.bel.trans (hk.below x.le (fun i hi e => by have := (hS i e).2; omega)), Nat.le_trans x.le hk.size, fun k e => Nat.lt_of_lt_of_le (x.xs k e) hk.size, x.pos⟩
theorem H2.off (x : H2 w0 B w hb rb h1 h2 X) (Y : Nat → Prop) (hY : ∀ k, Y k → X k) : H2 w0 B w hb rb h1 h2 Y := by
  obtain ⟨F, G, hp, rp, hF, hG⟩ := x.ex
  exact ⟨⟨F, G, hp, rp, fun k hk => ⟨(hF k hk).1, fun e => (hF k hk).2.1 (hY k e), (hF k hk).2.2⟩, fun k hk => ⟨(hG k hk).1, fun e => (hG k hk).2 (hY k e)⟩⟩, x.bel, x.le, fun k e => x.xs k (hY k e), x.pos⟩
theorem H2.ok (x : H2 w0 B w hb rb h1 h2 X) : h1.Ok := by
  obtain ⟨F, G, hp, _⟩ := x.ex
  exact hp.ok
theorem H2.rlast (x : H2 w0 B w hb rb h1 h2 X) : w.cell? ⟨rb, 2, none⟩ = some (.int .u64 (h2.last : Int)) := by
  obtain ⟨F, G, hp, rp, _⟩ := x.ex
  obtain ⟨ra, rc, rt, lv, M, hx, _⟩ := rp.ex
  exact hx.c2
theorem H2.hmake (x : H2 w0 B w hb rb h1 h2 X) (r v : Int) :
    Calls Tryd.prog 17 #[.pointer (some ⟨hb, 0, none⟩), .int .i64 r, .int .i64 v] w fun e w' => e = .returned (.tuple #[.int .u64 ((h1.makeR r v).1 : Int), .int .i64 ((h1.makeR r v).2 : Int)]) ∧ H2 w0 B w' hb rb (h1.makeS r v) h2 X ∧ Kept w w' (Its B X) := x.hgo (fun _ hp => hp.make r v)
theorem H2.rmake (x : H2 w0 B w hb rb h1 h2 X) (r v : Int) :
    Calls Tryd.prog 18 #[.pointer (some ⟨rb, 0, none⟩), .int .i64 r, .int .i64 v] w fun e w' => e = .returned (.tuple #[.int .u64 ((h2.makeR r v).1 : Int), .int .i64 ((h2.makeR r v).2 : Int)]) ∧ H2 w0 B w' hb rb h1 (h2.makeS r v) X ∧ Kept w w' (Its B X) := x.rgo (fun _ rp => rp.make r v)
theorem H2.hsetRef (x : H2 w0 B w hb rb h1 h2 X) (s : Nat) (f : Int) (a : Int) (n : Nat) (hs : s < 18446744073709551616) :
    Calls Tryd.prog 30 #[.pointer (some ⟨hb, 0, none⟩), .int .u64 (s : Int), .int .i64 f, .agg #[.int .i64 a, .int .u64 (n : Int)]] w fun e w' => e = .returned (.tuple #[.agg #[.int .i64 (h1.setRefR s f (a, n)).1.1, .int .u64 ((h1.setRefR s f (a, n)).1.2 : Int)], .int .i64 ((h1.setRefR s f (a, n)).2 : Int)]) ∧ H2 w0 B w' hb rb (h1.setRefS s f (a, n)) h2 X ∧ Kept w w' (Its B X) := x.hgo (fun _ hp => hp.setRef s hs f a n)
theorem H2.rsetRef (x : H2 w0 B w hb rb h1 h2 X) (s : Nat) (f : Int) (a : Int) (n : Nat) :
    Calls Tryd.prog 31 #[.pointer (some ⟨rb, 0, none⟩), .int .u64 (s : Int), .int .i64 f, .agg #[.int .i64 a, .int .u64 (n : Int)]] w fun e w' => e = .returned (.tuple #[.agg #[.int .i64 (h2.setRefR s f (a, n)).1.1, .int .u64 ((h2.setRefR s f (a, n)).1.2 : Int)], .int .i64 ((h2.setRefR s f (a, n)).2 : Int)]) ∧ H2 w0 B w' hb rb h1 (h2.setRefS s f (a, n)) X ∧ Kept w w' (Its B X) := x.rgo (fun _ rp => rp.setRef s f a n)
theorem H2.hsetIn (x : H2 w0 B w hb rb h1 h2 X) (s : Nat) (d : Int) (hs : s < 18446744073709551616) :
    Calls Tryd.prog 32 #[.pointer (some ⟨hb, 0, none⟩), .int .u64 (s : Int), .int .i64 d] w fun e w' => e = .returned (.int .i64 (h1.setInR s d : Int)) ∧ H2 w0 B w' hb rb (h1.setInS s d) h2 X ∧ Kept w w' (Its B X) := x.hgo (fun _ hp => hp.setIn s hs d)
theorem H2.rsetIn (x : H2 w0 B w hb rb h1 h2 X) (s : Nat) (d : Int) :
    Calls Tryd.prog 34 #[.pointer (some ⟨rb, 0, none⟩), .int .u64 (s : Int), .int .i64 d] w fun e w' => e = .returned (.int .i64 (h2.setInR s d : Int)) ∧ H2 w0 B w' hb rb h1 (h2.setInS s d) X ∧ Kept w w' (Its B X) := x.rgo (fun _ rp => rp.setIn s d)
theorem H2.hfree (x : H2 w0 B w hb rb h1 h2 X) (s : Nat) (hs : s < 18446744073709551616) :
    Calls Tryd.prog 19 #[.pointer (some ⟨hb, 0, none⟩), .int .u64 (s : Int)] w fun e w' => e = .returned (.int .i64 (h1.freeR s : Int)) ∧ H2 w0 B w' hb rb (h1.freeS s) h2 X ∧ Kept w w' (Its B X) := x.hgo (fun _ hp => hp.free s hs)
theorem H2.rfree (x : H2 w0 B w hb rb h1 h2 X) (s : Nat) :
    Calls Tryd.prog 20 #[.pointer (some ⟨rb, 0, none⟩), .int .u64 (s : Int)] w fun e w' => e = .returned (.int .i64 (h2.freeR s : Int)) ∧ H2 w0 B w' hb rb h1 (h2.freeS s) X ∧ Kept w w' (Its B X) := x.rgo (fun _ rp => rp.free s)
theorem H2.href (x : H2 w0 B w hb rb h1 h2 X) (s : Nat) (f : Int) (hs : s < 18446744073709551616) :
    Calls Tryd.prog 64 #[.pointer (some ⟨hb, 0, none⟩), .int .u64 (s : Int), .int .i64 f] w fun e w' => e = .returned (.tuple #[.agg #[.int .i64 (refR h1.cs s f).1.1, .int .u64 ((refR h1.cs s f).1.2 : Int)], .int .i64 ((refR h1.cs s f).2 : Int)]) ∧ H2 w0 B w' hb rb (h1) h2 X ∧ Kept w w' (Its B X) := x.hgo (fun _ hp => hp.ref s hs f)
theorem H2.rref (x : H2 w0 B w hb rb h1 h2 X) (s : Nat) (f : Int) :
    Calls Tryd.prog 65 #[.pointer (some ⟨rb, 0, none⟩), .int .u64 (s : Int), .int .i64 f] w fun e w' => e = .returned (.tuple #[.agg #[.int .i64 (refR h2.cs s f).1.1, .int .u64 ((refR h2.cs s f).1.2 : Int)], .int .i64 ((refR h2.cs s f).2 : Int)]) ∧ H2 w0 B w' hb rb h1 (h2) X ∧ Kept w w' (Its B X) := x.rgo (fun _ rp => rp.ref s f)
theorem H2.hnext (x : H2 w0 B w hb rb h1 h2 X) (s : Nat) :
    Calls Tryd.prog 23 #[.pointer (some ⟨hb, 0, none⟩), .int .u64 (s : Int)] w fun e w' => e = .returned (.tuple #[.int .u64 ((nextR h1.cs s).1 : Int), .bool (nextR h1.cs s).2]) ∧ H2 w0 B w' hb rb (h1) h2 X ∧ Kept w w' (Its B X) := x.hgo (fun _ hp => (hp.next s).mono (fun _ _ ⟨a, b⟩ => ⟨a, hp.stay b⟩))
theorem H2.rnext (x : H2 w0 B w hb rb h1 h2 X) (s : Nat) :
    Calls Tryd.prog 56 #[.pointer (some ⟨rb, 0, none⟩), .int .u64 (s : Int)] w fun e w' => e = .returned (.tuple #[.int .u64 ((nextR h2.cs s).1 : Int), .bool (nextR h2.cs s).2]) ∧ H2 w0 B w' hb rb h1 (h2) X ∧ Kept w w' (Its B X) := x.rgo (fun _ rp => rp.next s)
end

end Go.Proofs.YtdafpfdmnccelaaDoor
