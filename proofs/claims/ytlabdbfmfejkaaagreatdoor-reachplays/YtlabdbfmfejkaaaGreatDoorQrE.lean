/- The plain reacher: end. -/
import Derived.Test.YtlabdbfmfejkaaaGreatDoorQrBP
import Derived.Deep.RegionLaw
namespace Go.Proofs.YtlabdbfmfejkaaaGreatDoor
open Go.RowKit

section
variable {w w1 w2 w' : World} {B yb rb qb : Nat} {L : Nat → Nat} {s s' : QSt} {rv wv tv kv ov v : Value} {ts : List ((Nat × List (Int × Nat)) × Value)} {S : Nat → Prop}
def QSt.clear (s : QSt) : QSt := { s with under := false, row := [], waits := [], outs := [] }
def clrW (w : World) (yb : Nat) : World := ((((w.setCell ⟨yb, 5, none⟩ (.bool false)).setCell ⟨yb, 7, none⟩ (.slice none 0 0)).setCell ⟨yb, 8, none⟩ (.slice none 0 0)).setCell ⟨yb, 10, none⟩ (.slice none 0 0)).setCell ⟨yb, 11, none⟩ (.slice none 0 0)
theorem Tryz.infoRch : (Tryz.prog.info? 65).map (fun i => (i.zero, i.size, i.bytes)) = some (some (.agg #[.int .u64 0, .slice none 0 0]), 2, 32) := by kernel_rfl
theorem RcQ.clear_ (x : RcQ w B yb rb qb L s rv wv tv kv ov ts) : QcGo w (clrW w yb) B yb rb qb L s.clear := by
  have hk : Kept w (clrW w yb) (fun k => L k = 0) := (((((Kept.refl w (fun k => k = yb)).put ⟨yb, 5, none⟩ (.bool false) rfl).put ⟨yb, 7, none⟩ (.slice none 0 0) rfl).put ⟨yb, 8, none⟩ (.slice none 0 0) rfl).put ⟨yb, 10, none⟩ (.slice none 0 0) rfl).put ⟨yb, 11, none⟩ (.slice none 0 0) rfl |>.mono (fun k _ e => by
    have e' : k = yb := e
    rw [e', x.l0])
  have hb : Row (clrW w yb) yb 50 (rqV rb qb s.clear rv (.slice none 0 0) (.slice none 0 0) (.slice none 0 0) (.slice none 0 0)) := ((((x.box.set 5 (.bool false)).set 7 (.slice none 0 0)).set 8 (.slice none 0 0)).set 10 (.slice none 0 0)).set 11 (.slice none 0 0)
  exact x.upd (f := fun _ => 1) hk (fun k _ e => by omega) hb (x.rl_k hk (fun k e => by omega)) x.ed ⟨rfl, Or.inl ⟨rfl, rfl⟩⟩ ⟨rfl, Or.inl ⟨rfl, rfl⟩⟩ ⟨rfl, Or.inl ⟨rfl, rfl⟩⟩ (OwI.nil _ _) (fun k e => (by cases e)) (fun k e => (by cases e)) (fun k e => (by cases e)) (fun k e => (by cases e)) (fun k e => Or.inl e) (fun e he k h => Or.inl ⟨e, he, h⟩)
/-- One row more is ended. -/
theorem RcQ.more (x : RcQ w B yb rb qb L s rv wv tv kv ov ts) {v6 v7 : Value} {w6 w7 : World} (b6 : Below w.heap.size w w6) (o6 : OwI w6 w.heap.size v6 s.outs) (o : Obj) (ho : w7.ownsRow B 65 2 v7 (ts.length + 1) (endV ts ++ [.int .u64 (s.inn : Int), v6])) (hk : Kept (w6.alloc o) w7 (fun k => rv.ownBlock = some k)) (hm : Moved (w6.alloc o) rv v7) :
    QcGo w (w7.setCell ⟨yb, 2, none⟩ v7) B yb rb qb L { s with ended := s.ended ++ [(s.inn, s.outs)] } ∧ w7.cell? ⟨yb, 2, none⟩ = some rv ∧ w7.frozen? ⟨yb, 2, none⟩ = false ∧ yb < w7.heap.size := by
  have hBw : B ≤ w.heap.size := by have := x.bl; omega
  obtain ⟨hrl, hbw⟩ := x.rl.more (Below.refl _ _) hBw o6 b6 o ho hk hm
  have hz6 := b6.size
  have hza : (w6.alloc o).heap.size = w6.heap.size + 1 := by simp
  have hz7 := hk.size
  have h7 : Kept w w7 (fun k => L k = 5) := (kept_of_below (b6.trans ((bel_alloc w6 o).mono hz6)) _).trans (hk.mono (fun k _ e => x.l5 k e)) (fun _ _ e => e)
  have b2 := x.box.kept h7 (fun e => by rw [x.l0] at e; omega)
  have hks : Kept w7 (w7.setCell ⟨yb, 2, none⟩ v7) (fun k => k = yb) := Kept.setCell _ _ _
  have hall : Kept w (w7.setCell ⟨yb, 2, none⟩ v7) (fun k => L k = 0 ∨ L k = 5) := (h7.mono (fun _ _ e => Or.inr e)).trans (hks.mono (fun k _ e => by
    have e' : k = yb := e
    rw [e', x.l0]
    exact Or.inl rfl)) (fun _ _ e => e)
  have hyl := x.bl.2
  have hn7 : ∀ k, v7.ownBlock = some k → rv.ownBlock = some k ∨ w.heap.size ≤ k := fun k e => (hm k e).imp id (fun a => by omega)
  have hny : ∀ k, v7.ownBlock = some k → k ≠ yb := fun k e e2 => by
    subst e2
    rcases hn7 k e with a | a
    · have := x.l5 k a; rw [x.l0] at this; omega
    · omega
  have hne := hrl.ne
  have hrl' : RL (w7.setCell ⟨yb, 2, none⟩ v7) B v7 (ts ++ [((s.inn, s.outs), v6)]) := ⟨own_kept hrl.ow hks (fun k e e' => hny k e e'), fun e he => (hrl.sr e he).kept hks (fun k h e' => by
    have e' : k = yb := e'
    subst e'
    rcases List.mem_append.1 he with he | he
    · have := x.l6 e he k h; rw [x.l0] at this; omega
    · rw [List.mem_singleton] at he
      subst he
      have := (o6.ge k h).1
      omega), hne⟩
  refine ⟨x.upd (f := fun k => if v7.ownBlock = some k then 5 else 6) hall (fun k _ e => by omega) (b2.set 2 v7) hrl' (by rw [List.map_append, x.ed]; rfl) (x.wl_k hall (fun k e => by omega)) (x.tl_k hall (fun k e => by omega)) (x.kl_k hall (fun k e => by omega)) (x.ol_k hall (fun k e => by omega)) (fun k e => Or.inl e) (fun k e => Or.inl e) (fun k e => Or.inl e) (fun k e => Or.inl e) (fun k e => (hn7 k e).imp id (fun a => ⟨a, if_pos e⟩)) (fun e he k h => ?_), b2.cell 2 (by simp [rqV]), b2.frozen 2, b2.lt⟩
  rcases List.mem_append.1 he with h1 | h1
  · exact Or.inl ⟨e, h1, h⟩
  · rw [List.mem_singleton] at h1
    subst h1
    exact Or.inr ⟨(o6.ge k h).1, if_neg (hne _ he k h)⟩
set_option maxRecDepth 20000 in
set_option maxHeartbeats 4000000 in
theorem qend_any (x : QcN w B yb rb qb L s) (h1 : s.outs.length ≤ 1000000) (h2 : s.ended.length ≤ 1000000) :
    Calls Tryz.prog 39 #[.pointer (some ⟨yb, 0, none⟩)] w fun e w' => e = .returned (.tuple #[]) ∧ QcGo w w' B yb rb qb L s.endS := by
  obtain ⟨rv, wv, tv, kv, ov, ts, x⟩ := x
  have HCL : Hid (∀ (w : World) (L : Nat → Nat) (s : QSt), QcN w B yb rb qb L s → yb < w.heap.size ∧ (∃ a, w.cell? ⟨yb, 5, none⟩ = some (.bool a)) ∧ (∃ a, w.cell? ⟨yb, 7, none⟩ = some a) ∧ (∃ a, w.cell? ⟨yb, 8, none⟩ = some a) ∧ (∃ a, w.cell? ⟨yb, 10, none⟩ = some a) ∧ (∃ a, w.cell? ⟨yb, 11, none⟩ = some a) ∧ (∀ j, w.frozen? ⟨yb, j, none⟩ = false) ∧ QcGo w (clrW w yb) B yb rb qb L s.clear) := fun w L s y => by
    obtain ⟨_, _, _, _, _, _, y⟩ := y
    obtain ⟨_, _, _, _, _, q5, _, q7, q8, _, q10, q11⟩ := y.c
    exact ⟨y.bl.2, ⟨_, q5⟩, ⟨_, q7⟩, ⟨_, q8⟩, ⟨_, q10⟩, ⟨_, q11⟩, fun j => y.box.frozen j, y.clear_⟩
  obtain ⟨_, _, c2, _, _, c5, c6, _, _, _, _, c11⟩ := x.c
  have hyl := x.bl.2
  cases hu : s.under with
  | false =>
    have HE : Hid (s.endS = s.clear) := by
      have e : s.endS = s.clear := by unfold QSt.endS QSt.clear; rw [hu]; rfl
      exact e
    obtain ⟨_, _, ⟨b7, q7⟩, ⟨b8, q8⟩, ⟨b10, q10⟩, ⟨b11, q11⟩, fz, hgo⟩ := HCL.out w L s ⟨_, _, _, _, _, _, x⟩
    have f5 := fz 5
    have f7 := fz 7
    have f8 := fz 8
    have f10 := fz 10
    have f11 := fz 11
    rw [hu] at c5
    have HGO : Hid _ := hidden hgo
    clear x hu fz hgo c2 c6 c11
    go_enter Tryz.func39, Tryz.ntmps39
    go_wp2
    go_end0
    rw [HE.out]
    exact ⟨rfl, HGO.out⟩
  | true =>
    have HE : Hid (s.endS = QSt.clear { s with ended := s.ended ++ [(s.inn, s.outs)] }) := by
      have e : s.endS = QSt.clear { s with ended := s.ended ++ [(s.inn, s.outs)] } := by unfold QSt.endS QSt.clear; rw [hu]; rfl
      exact e
    have hlt : ts.length = s.ended.length := by rw [← x.ed, List.length_map]
    obtain ⟨i0, hi0, hz0, hzs, hzb⟩ := info_parts Tryz.infoID
    obtain ⟨j0, hj0, hy0, hys, hyb⟩ := info_parts Tryz.infoRch
    have HX : Hid _ := hidden x
    obtain ⟨ro, rc, hrv, hrc1, hrc2, _⟩ := own_slice x.rl.ow
    obtain ⟨oo, oc, hov, hoc1, hoc2, _⟩ := x.ol.slice
    unfold maxLen at hrc2 hoc2
    have hrow := x.rl.ow
    have hsr := x.ol.sr
    subst hrv hov
    rw [hu] at c5
    obtain ⟨n, hn⟩ : ∃ n, n = ts.length := ⟨_, rfl⟩
    obtain ⟨m, hm⟩ : ∃ m, m = s.outs.length := ⟨_, rfl⟩
    have HNM : Hid (n = ts.length ∧ m = s.outs.length) := ⟨hn, hm⟩
    have hn2 : n ≤ 1000000 := by omega
    rw [← hn] at c2 hrc1 hrow
    rw [← hm] at c11 hoc1 hsr h1
    have HMO : Hid (∀ v6 w6 v7 w7, Below w.heap.size w w6 → w6.ownsRow w.heap.size 55 2 v6 m (idsV s.outs) → w7.ownsRow B 65 2 v7 (n + 1) (endV ts ++ [.int .u64 (s.inn : Int), v6]) → Kept (w6.alloc (.cells #[.int .u64 (s.inn : Int), v6] 65)) w7 (fun k => (Value.slice ro n rc).ownBlock = some k) → Moved (w6.alloc (.cells #[.int .u64 (s.inn : Int), v6] 65)) (.slice ro n rc) v7 → QcGo w (w7.setCell ⟨yb, 2, none⟩ v7) B yb rb qb L { s with ended := s.ended ++ [(s.inn, s.outs)] } ∧ w7.cell? ⟨yb, 2, none⟩ = some (.slice ro n rc) ∧ w7.frozen? ⟨yb, 2, none⟩ = false ∧ yb < w7.heap.size) := fun v6 w6 v7 w7 b6 o6 o7 k7 m7 => by
      have hx := HX.out
      rw [← hn, ← hm] at hx
      rw [hm] at o6
      rw [hn] at o7
      exact hx.more b6 o6 _ o7 k7 m7
    clear x hu hlt h2 hn hm
    generalize endV ts = ev at *
    generalize idsV s.outs = iv at *
    go_enter Tryz.func39, Tryz.ntmps39
    go_upto_region 1 with fail
    have hE1 : ∀ o, Below w.heap.size w (w.alloc o).drew := fun o => ((Below.refl _ _).alloc (Nat.le_refl _) o).drew
    have hEn : ∀ o, (w.alloc o).drew.heap[w.heap.size]? = some o := fun o => heap_alloc_new w o
    have hC2 : ∀ W, Below w.heap.size w W → W.cell? ⟨yb, 2, none⟩ = some (.slice ro n rc) := fun W hB => (hB.cell (p := ⟨yb, 2, none⟩) hyl).trans c2
    have d2 := hC2 _ (hE1 (.cells #[] 55))
    have d6 := ((hE1 (.cells #[] 55)).cell (p := ⟨yb, 6, none⟩) hyl).trans c6
    have d11 := ((hE1 (.cells #[] 55)).cell (p := ⟨yb, 11, none⟩) hyl).trans c11
    go_cut [] from 6 to 26 (fun wc => QcGo w wc B yb rb qb L { s with ended := s.ended ++ [(s.inn, s.outs)] })
    case first =>
      go_region_law (first
        | (refine step_append_sr rfl (.tmp 15) (.tmp 20) 46 rfl 55 i0 _ 2 16 Tryz.underlying46 hi0 hz0 hzs hzb rfl (by omega) w.heap.size (.slice (some ⟨w.heap.size, 0, none⟩) 0 0) 0 [] rfl (own_emptyI (hEn _) (Nat.le_refl _)) _ m _ rfl (hsr.below (hE1 _)) (by omega) (by omega) (hE1 _).size ?_; intro v6 w6 ho6 hk6 hm6; rw [Nat.zero_add, List.nil_append] at ho6; have hB6 : Below w.heap.size w w6 := (hE1 _).trans (hk6.below (hE1 _).size (fun i hi e => by simp [Value.ownBlock] at e; omega)); obtain ⟨ao6, c6', hv6⟩ := ownc_form ho6; subst hv6; have e2 := hC2 w6 hB6; have e6 := (hB6.cell (p := ⟨yb, 6, none⟩) hyl).trans c6; have e2' : ∀ o, (w6.alloc o).cell? ⟨yb, 2, none⟩ = _ := fun o => hC2 _ (hB6.alloc hB6.size o))
        | (refine step_append_sr rfl (.tmp 10) (.tmp 23) 43 rfl 65 j0 _ 2 32 Tryz.underlying43 hj0 hy0 hys hyb rfl (by omega) B (.slice ro n rc) n ev rfl (own_kept hrow (kept_of_below (hB6.alloc hB6.size _) (fun _ => False)) (fun _ _ e => e)) _ 1 _ rfl (Sr.one1 (heap_alloc_new w6 _) rfl (by simp [Value.oneCell'])) (by omega) (by omega) (by have := hB6.size; have := HX.out.bl; simp; omega) ?_; intro v7 w7 ho7 hk7 hm7; obtain ⟨hg7, q7, f7, l7⟩ := HMO.out _ w6 v7 w7 hB6 ho6 ho7 hk7 hm7; have HG7 : Hid _ := hidden hg7; obtain ⟨vo7, vc7, hv7⟩ := ownc_form ho7; subst hv7; clear ho7 hk7 hm7 hg7))
      all_goals
        go_simp
        go_wp2
        go_meet
        exact HG7.out
    case rest =>
      obtain ⟨L1, x1, a1⟩ := hcut.ex
      have HK1 : Hid _ := hidden hcut.kept
      have HA1 : Hid _ := hidden a1
      obtain ⟨hyl1, ⟨b5, q5⟩, ⟨b7, q7⟩, ⟨b8, q8⟩, ⟨b10, q10⟩, ⟨b11, q11⟩, fz, hgo⟩ := HCL.out wc L1 _ x1
      have f5 := fz 5
      have f7 := fz 7
      have f8 := fz 8
      have f10 := fz 10
      have f11 := fz 11
      have HGO : Hid _ := hidden hgo
      clear x1 a1 hcut fz hgo c2 c5 c6 c11 hyl hE1 hEn hC2 d2 d6 d11 hsr hrow HMO
      go_wp2
      go_end0
      rw [HE.out]
      exact ⟨rfl, HGO.out.after HK1.out HA1.out⟩
end
end Go.Proofs.YtlabdbfmfejkaaaGreatDoor
