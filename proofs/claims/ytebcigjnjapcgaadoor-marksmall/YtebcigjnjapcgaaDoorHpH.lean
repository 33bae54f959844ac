/- SetVal, SetIn, SetRef. -/
import Derived.Test.YtebcigjnjapcgaaDoorHpG
import Derived.Deep.QuietTactic
import Derived.BigQuiet
namespace Go.Proofs.YtebcigjnjapcgaaDoor
open Go.RowKit

theorem hBl_mb {hb ab mb : Nat} {L : List Pl} : mb ∈ hBl hb ab mb L := by simp [hBl]
theorem kept_vb {w w' : World} {hb ab mb : Nat} {L : List Pl} {k0 : Nat} (hk : Kept w w' (fun k => k = k0)) (h : k0 ∈ hBl hb ab mb L) : Kept w w' (fun k => k ∈ hBl hb ab mb L) :=
  hk.mono (fun k _ e => by have e' : k = k0 := e; rw [e']; exact h)

theorem pick_fn {α β : Type} {p : α → β → Prop} (h : ∀ a, ∃ b, p a b) : ∃ f : α → β, ∀ a, p a (f a) := ⟨fun a => Classical.choose (h a), fun a => Classical.choose_spec (h a)⟩

section
variable {w : World} {hb ab mb : Nat} {h : HSt} {L : List Pl}

set_option maxRecDepth 20000 in
set_option maxHeartbeats 1000000 in
theorem hsetin_any (x : HX w hb ab mb h L) (s : Nat) (hs : s < 18446744073709551616) (d : Int) :
    Calls Tryd.prog 27 #[.pointer (some ⟨hb, 0, none⟩), .int .u64 (s : Int), .int .i64 d] w fun e w' => e = .returned (.int .i64 (h.setInR s d : Int)) ∧ Goes w w' hb (fun k => k ∈ hBl hb ab mb L) (h.setInS s d) := by
  unfold HSt.setInR HSt.setInS
  by_cases hd : 0 ≤ d ∧ d ≤ 40
  · rw [if_pos hd]
    have hw := fun w => within_yes d 0 40 hd.1 hd.2 w
    have c4 := x.c4
    cases hg : getP L s with
    | none =>
      have hgc : getC h.cs s = none := by rw [x.get, hg]; rfl
      rw [hgc, if_neg (by simp), if_neg (by simp)]
      have hlk := x.look2N s hs hg
      unfold zO at hlk
      clear hd
      go_enter Tryd.func27, Tryd.ntmps27
      go_wp2_with (go_at_call 45; refine (hw _).mono ?_; rintro e _ ⟨rfl, rfl⟩)
      go_ret
      exact ⟨rfl, x.hp.stay ((Below.refl _ _).alloc (Nat.le_refl _) _)⟩
    | some p =>
      have hgc : getC h.cs s = some p.o := by rw [x.get, hg]; rfl
      rw [hgc, if_pos (by simp), if_pos (by simpa using hd)]
      obtain ⟨j, rfl⟩ : ∃ j : Nat, d = (j : Int) := ⟨d.toNat, by omega⟩
      simp only [Int.toNat_natCast]
      have hlk := x.look2S s hs hg
      have hA : ∀ o, Below w.heap.size w (w.alloc o) := fun o => (Below.refl _ _).alloc (Nat.le_refl _) o
      have hex : ∀ o : Obj, ∃ w', (Instr.mapUpdate 96 (.map (some mb)) (.int .u64 (s : Int)) (.agg #[.int .u64 (p.o.s : Int), .int .i64 (p.o.c : Int), .slice (some ⟨p.rb, 0, none⟩) p.o.rf.length p.o.rf.length, .slice (some ⟨p.vb, 0, none⟩) p.o.vl.length p.o.vl.length, .int .i64 (j : Int)])).run Tryd.prog (w.alloc o).drew = .ok () w' ∧ Goes w w' hb (fun k => k ∈ hBl hb ab mb L) { h with cs := updC h.cs s (fun o => o.setD j) } := fun o => by
        have hW : Below w.heap.size w (w.alloc o).drew := (hA o).drew
        have xw := x.below hW
        obtain ⟨w', h1, h2, h3⟩ := xw.mp.set Tryd.underlying96 s hs (u := p.v) (by rw [getP_look, hg]; rfl) (Pl.v { p with o := p.o.setD j })
        exact ⟨w', h1, (xw.setD hg j (by omega) h3 h2).goes ((kept_of_below hW _).trans (kept_vb h3 hBl_mb) (fun _ _ e => e)) (fun k hk => Or.inl (by rw [upL_hBl] at hk; exact hk))⟩
      obtain ⟨ff, hff⟩ := pick_fn hex
      have hU := fun o => (hff o).1
      have HG : Hid (∀ o, Goes w (ff o) hb (fun k => k ∈ hBl hb ab mb L) { h with cs := updC h.cs s (fun o => o.setD j) }) := fun o => (hff o).2
      clear hex hff
      unfold Pl.v at hlk
      have c4' := fun o => (x.below (hA o)).c4
      clear hd
      go_enter Tryd.func27, Tryd.ntmps27
      go_wp2_with (go_at_call 45; refine (hw _).mono ?_; rintro e _ ⟨rfl, rfl⟩)
      go_region
      go_wp2
      go_ret
      exact ⟨rfl, HG.out _⟩
  · rw [if_neg hd, if_neg (fun e => hd ⟨e.1, e.2.1⟩)]
    have hw := fun w => within_no d 0 40 (by omega) w
    clear hd
    go_enter Tryd.func27, Tryd.ntmps27
    go_wp2_with (go_at_call 45; refine (hw _).mono ?_; rintro e _ ⟨rfl, rfl⟩)
    go_ret
    exact ⟨rfl, x.goes (Kept.refl _ _) (fun k hk => Or.inl hk)⟩
end

end Go.Proofs.YtebcigjnjapcgaaDoor
