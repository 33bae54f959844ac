/- SetVal, SetIn, SetRef. -/
import Derived.Test.YthjbbghmmikmmaaDoorHpG
import Derived.Deep.QuietTactic
import Derived.BigQuiet
namespace Go.Proofs.YthjbbghmmikmmaaDoor
open Go.RowKit

theorem hBl_mb {hb ab mb : Nat} {L : List Pl} : mb ∈ hBl hb ab mb L := by simp [hBl]
theorem kept_vb {w w' : World} {hb ab mb : Nat} {L : List Pl} {k0 : Nat} (hk : Kept w w' (fun k => k = k0)) (h : k0 ∈ hBl hb ab mb L) : Kept w w' (fun k => k ∈ hBl hb ab mb L) :=
  hk.mono (fun k _ e => by have e' : k = k0 := e; rw [e']; exact h)

theorem pick_fn {α β : Type} {p : α → β → Prop} (h : ∀ a, ∃ b, p a b) : ∃ f : α → β, ∀ a, p a (f a) := ⟨fun a => Classical.choose (h a), fun a => Classical.choose_spec (h a)⟩

section
variable {w : World} {hb ab mb : Nat} {h : HSt} {L : List Pl}
set_option maxRecDepth 20000 in
set_option maxHeartbeats 1000000 in
theorem hsetval_any (x : HX w hb ab mb h L) (s : Nat) (hs : s < 18446744073709551616) (f : Int) (y : Nat) :
    Calls Tryd.prog 21 #[.pointer (some ⟨hb, 0, none⟩), .int .u64 (s : Int), .int .i64 f, .int .u64 (y : Int)] w fun e w' => e = .returned (.int .i64 (h.setValR s f : Int)) ∧ Goes w w' hb (fun k => k ∈ hBl hb ab mb L) (h.setValS s f y) := by
  have hV := hval_any x s hs f
  unfold HSt.setValR HSt.setValS
  by_cases hE : (valR h.cs s f).2 = 0
  · rw [if_pos hE]
    have hex : ∃ p i, getP L s = some p ∧ f = (i : Nat) ∧ i < p.o.vl.length := by
      unfold valR at hE
      rw [x.get] at hE
      cases hg : getP L s with
      | none => rw [hg] at hE; cases hE
      | some p =>
        rw [hg] at hE
        simp only [Option.map_some] at hE
        split at hE
        · next hf => exact ⟨p, f.toNat, rfl, by omega, by omega⟩
        · cases hE
    obtain ⟨p, i, hg, rfl, hi⟩ := hex
    obtain ⟨hp, _⟩ := getP_mem hg
    rw [valR_ok (by rw [x.get, hg]; rfl) hi] at hV ⊢
    have hlk := x.lookS s hs hg
    unfold Pl.v at hlk
    have hF := fieldV
    have c4 := x.c4
    have hfl := (x.fl hp).2.1
    have hii : (i : Int) < (p.o.vl.length : Int) := by omega
    have r0 := x.vc hp i hi
    have f0 := (x.rows p hp).2.frozen i
    have HX' : Hid (HX (w.setCell ⟨p.vb, i, none⟩ (.int .u64 (y : Int))) hb ab mb { h with cs := updC h.cs s (fun o => o.setV i y) } (upL L s (fun o => o.setV i y))) := by
      have e : HX (w.setCell ⟨p.vb, i, none⟩ (.int .u64 (y : Int))) hb ab mb { h with cs := updC h.cs s (fun o => o.setV i y) } (upL L s (fun o => o.setV i y)) := by
        refine x.setV hg i y (Kept.setCell _ _ _) ?_
        rw [← uV_set]
        exact (x.rows p hp).2.set i _
      exact e
    have HM : Hid (p.vb ∈ hBl hb ab mb L) := hidden (mem_vb hp)
    generalize p.o.vl[i] = z at *
    generalize p.o.vl.length = n at *
    simp only [Int.toNat_natCast]
    go_enter Tryd.func21, Tryd.ntmps21
    go_wp2_with (go_at_call 37; refine hV.mono ?_; rintro e _ ⟨rfl, rfl⟩)
    go_ret
    exact ⟨rfl, HX'.out.goes (kept_vb (Kept.setCell _ _ _) HM.out) (fun k hk => Or.inl (by rw [upL_hBl] at hk; exact hk))⟩
  · rw [if_neg hE]
    generalize valR h.cs s f = v at *
    have hEi : ((v.2 : Int) == 0) = false := by rw [beq_eq_false_iff_ne]; omega
    clear hE
    go_enter Tryd.func21, Tryd.ntmps21
    go_wp2_with (go_at_call 37; refine hV.mono ?_; rintro e _ ⟨rfl, rfl⟩)
    go_ret
    exact ⟨rfl, x.goes (Kept.refl _ _) (fun k hk => Or.inl hk)⟩

set_option maxRecDepth 20000 in
set_option maxHeartbeats 1000000 in
theorem hsetin_any (x : HX w hb ab mb h L) (s : Nat) (hs : s < 18446744073709551616) (d : Int) :
    Calls Tryd.prog 33 #[.pointer (some ⟨hb, 0, none⟩), .int .u64 (s : Int), .int .i64 d] w fun e w' => e = .returned (.int .i64 (h.setInR s d : Int)) ∧ Goes w w' hb (fun k => k ∈ hBl hb ab mb L) (h.setInS s d) := by
  unfold HSt.setInR HSt.setInS
  by_cases hd : 0 ≤ d ∧ d ≤ 40
  · rw [if_pos hd]
    have hw := fun w => within_yes d 0 40 hd.1 hd.2 w
    have c4 := x.c4
    cases hg : getP L s with
    | none =>
      have hgc : getC h.cs s = none := by rw [x.get, hg]; rfl
      rw [hgc, if_neg (by simp), if_neg (by simp)]
      have hlk := x.look2N s hs hg
      unfold zO at hlk
      clear hd
      go_enter Tryd.func33, Tryd.ntmps33
      go_wp2_with (go_at_call 26; refine (hw _).mono ?_; rintro e _ ⟨rfl, rfl⟩)
      go_ret
      exact ⟨rfl, x.hp.stay ((Below.refl _ _).alloc (Nat.le_refl _) _)⟩
    | some p =>
      have hgc : getC h.cs s = some p.o := by rw [x.get, hg]; rfl
      rw [hgc, if_pos (by simp), if_pos (by simpa using hd)]
      obtain ⟨j, rfl⟩ : ∃ j : Nat, d = (j : Int) := ⟨d.toNat, by omega⟩
      simp only [Int.toNat_natCast]
      have hlk := x.look2S s hs hg
      have hA : ∀ o, Below w.heap.size w (w.alloc o) := fun o => (Below.refl _ _).alloc (Nat.le_refl _) o
      have hex : ∀ o : Obj, ∃ w', (Instr.mapUpdate 68 (.map (some mb)) (.int .u64 (s : Int)) (.agg #[.int .u64 (p.o.s : Int), .int .i64 (p.o.c : Int), .slice (some ⟨p.rb, 0, none⟩) p.o.rf.length p.o.rf.length, .slice (some ⟨p.vb, 0, none⟩) p.o.vl.length p.o.vl.length, .int .i64 (j : Int)])).run Tryd.prog (w.alloc o).drew = .ok () w' ∧ Goes w w' hb (fun k => k ∈ hBl hb ab mb L) { h with cs := updC h.cs s (fun o => o.setD j) } := fun o => by
        have hW : Below w.heap.size w (w.alloc o).drew := (hA o).drew
        have xw := x.below hW
        obtain ⟨w', h1, h2, h3⟩ := xw.mp.set Tryd.underlying68 s hs (u := p.v) (by rw [getP_look, hg]; rfl) (Pl.v { p with o := p.o.setD j })
        exact ⟨w', h1, (xw.setD hg j (by omega) h3 h2).goes ((kept_of_below hW _).trans (kept_vb h3 hBl_mb) (fun _ _ e => e)) (fun k hk => Or.inl (by rw [upL_hBl] at hk; exact hk))⟩
      obtain ⟨ff, hff⟩ := pick_fn hex
      have hU := fun o => (hff o).1
      have HG : Hid (∀ o, Goes w (ff o) hb (fun k => k ∈ hBl hb ab mb L) { h with cs := updC h.cs s (fun o => o.setD j) }) := fun o => (hff o).2
      clear hex hff
      unfold Pl.v at hlk
      have c4' := fun o => (x.below (hA o)).c4
      clear hd
      go_enter Tryd.func33, Tryd.ntmps33
      go_wp2_with (go_at_call 26; refine (hw _).mono ?_; rintro e _ ⟨rfl, rfl⟩)
      go_region
      go_wp2
      go_ret
      exact ⟨rfl, HG.out _⟩
  · rw [if_neg hd, if_neg (fun e => hd ⟨e.1, e.2.1⟩)]
    have hw := fun w => within_no d 0 40 (by omega) w
    clear hd
    go_enter Tryd.func33, Tryd.ntmps33
    go_wp2_with (go_at_call 26; refine (hw _).mono ?_; rintro e _ ⟨rfl, rfl⟩)
    go_ret
    exact ⟨rfl, x.goes (Kept.refl _ _) (fun k hk => Or.inl hk)⟩
end

end Go.Proofs.YthjbbghmmikmmaaDoor
