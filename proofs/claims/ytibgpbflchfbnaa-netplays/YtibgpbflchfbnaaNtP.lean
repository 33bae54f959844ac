/- NetPlays: the walk. -/
import Derived.Test.YtibgpbflchfbnaaNtS
import Derived.Test.YtibgpbflchfbnaaNtN
import Derived.Deep.CutRange
import Derived.Deep.CutBlock
import Derived.Deep.QuietTactic
import Derived.BigQuiet
import Derived.Deep.RegionHeld
namespace Go.Proofs.Ytibgpbflchfbnaa
open Go.RowKit

theorem pick5p (n : Int) : pickN n 5 = 0 ∨ pickN n 5 = 1 ∨ pickN n 5 = 2 ∨ pickN n 5 = 3 ∨ pickN n 5 = 4 := by
  have := pickN_lt n 5 (by omega)
  omega

/-- A step in block b. -/
def StepBox (w : World) (b : Nat) (what k : Int) (d : Dg) (v : Value) : Prop := w.heap[b]? = some (.cells #[.int .i64 what, .int .i64 k, .int .i64 d.frm, .int .i64 d.to, v] 41 (0, 0))

/-- A copy in block ob, a step in block xb. -/
def Stp (w : World) (ob xb : Nat) (frm tt : Int) (v : Value) (what k : Int) (u : Value) : Prop :=
  w.heap[ob]? = some (.cells #[.int .i64 frm, .int .i64 tt, v] 30 (0, 0)) ∧ w.heap[xb]? = some (.cells #[.int .i64 what, .int .i64 k, .int .i64 frm, .int .i64 tt, u] 41 (0, 0))

/-- A block of at least n bytes that may be written. -/
def WG (w : World) (k n : Nat) : Prop := ∃ c : Array Value, w.heap[k]? = some (.cells c 5 (0, 0)) ∧ n ≤ c.size
theorem WG.at {w : World} {k n : Nat} (h : WG w k n) (j : Nat) (hj : j < n) : (∃ u, w.cell? ⟨k, j, none⟩ = some u) ∧ w.frozen? ⟨k, j, none⟩ = false := by
  obtain ⟨c, hc, hs⟩ := h
  refine ⟨⟨c[j]'(by omega), ?_⟩, frozen_of_row w k j _ _ hc⟩
  rw [cell_of_row w k j _ _ _ hc, Array.getElem?_eq_getElem (by omega)]
theorem WG.keep {w w' : World} {k n : Nat} {S : Nat → Prop} (h : WG w k n) (hk : Kept w w' S) (hs : ¬ S k) : WG w' k n := by
  obtain ⟨c, hc, hn⟩ := h
  exact ⟨c, (hk.block k (Array.getElem?_eq_some_iff.1 hc).1 hs).trans hc, hn⟩
theorem WG.set {w : World} {k n : Nat} (h : WG w k n) (j : Nat) (u : Value) : WG (w.setCell ⟨k, j, none⟩ u) k n := by
  obtain ⟨c, hc, hn⟩ := h
  exact ⟨_, heap_setCell_same w k j _ _ u hc, by simpa using hn⟩
theorem WG.lt {w : World} {k n : Nat} (h : WG w k n) : k < w.heap.size := by
  obtain ⟨c, hc, _⟩ := h
  exact (Array.getElem?_eq_some_iff.1 hc).1

/-- A copy in memory of its own, that neither net has. -/
structure Own (w : World) (ob : Nat) (frm tt : Int) (v : Value) (n : Nat) (F R : Nat → Prop) (B : Nat) : Prop where
  box : w.heap[ob]? = some (.cells #[.int .i64 frm, .int .i64 tt, v] 30 (0, 0))
  out : ¬ F ob ∧ ¬ R ob
  val : (v = .slice none 0 0 ∧ n = 0) ∨ ∃ gk cap, v = .slice (some ⟨gk, 0, none⟩) n cap ∧ gk ≠ ob ∧ B ≤ gk ∧ ¬ F gk ∧ ¬ R gk ∧ WG w gk n
theorem Own.keep {w w' : World} {ob n B : Nat} {frm tt : Int} {v : Value} {F R F' R' S : Nat → Prop} (h : Own w ob frm tt v n F R B) (hk : Kept w w' S) (hs : ∀ k, S k → F k ∨ R k) (hF : Grown w F F') (hR : Grown w R R') : Own w' ob frm tt v n F' R' B := by
  have hob : ob < w.heap.size := (Array.getElem?_eq_some_iff.1 h.box).1
  have key : ∀ k, k < w.heap.size → ¬ F k → ¬ R k → ¬ S k ∧ ¬ F' k ∧ ¬ R' k := fun k hlt h1 h2 => by
    refine ⟨fun e => ?_, fun e => ?_, fun e => ?_⟩
    · rcases hs k e with h3 | h3
      · exact h1 h3
      · exact h2 h3
    · rcases hF k e with h3 | h3
      · exact h1 h3
      · omega
    · rcases hR k e with h3 | h3
      · exact h2 h3
      · omega
  have ko := key ob hob h.out.1 h.out.2
  refine ⟨(hk.block ob hob ko.1).trans h.box, ko.2, ?_⟩
  rcases h.val with h1 | ⟨gk, cap, h1, h2, h3, h4, h5, h6⟩
  · exact Or.inl h1
  · have kg := key gk h6.lt h4 h5
    exact Or.inr ⟨gk, cap, h1, h2, h3, kg.2.1, kg.2.2, h6.keep hk kg.1⟩
theorem Own.below {w w' : World} {ob n B : Nat} {frm tt : Int} {v : Value} {F R : Nat → Prop} (h : Own w ob frm tt v n F R B) (hb : Below w.heap.size w w') : Own w' ob frm tt v n F R B :=
  h.keep (kept_of_below hb (fun _ => False)) (fun _ e => e.elim) (Grown.refl _ _) (Grown.refl _ _)

set_option maxRecDepth 20000 in
set_option maxHeartbeats 2000000 in
theorem netPlays_no (most : Int) (v : Value) (w : World) (hv : ∃ a n c, v = .slice a n c) (hm : most < 1 ∨ 256 < most) :
    Calls Try.prog 4 #[.int .i64 most, v] w fun e w' => e = .returned (.bool true) ∧ Below w.heap.size w w' := by
  obtain ⟨a, n, c, rfl⟩ := hv
  by_cases h1 : most < 1
  · go_enter Try.func4, Try.ntmps4
    go_wp2_with (first
      | (go_at_call 8; refine (nnew_no most hm w).mono ?_; rintro e w1 ⟨rfl, rfl⟩)
      | (go_at_call 9; refine (nknown_any w).mono ?_; rintro e w2 ⟨rfl, hb2⟩))
    go_ret
    exact ⟨rfl, hb2⟩
  · have h2 : 256 < most := by omega
    go_enter Try.func4, Try.ntmps4
    go_wp2_with (first
      | (go_at_call 8; refine (nnew_no most hm w).mono ?_; rintro e w1 ⟨rfl, rfl⟩)
      | (go_at_call 9; refine (nknown_any w).mono ?_; rintro e w2 ⟨rfl, hb2⟩))
    go_ret
    exact ⟨rfl, hb2⟩

set_option maxRecDepth 20000 in
set_option maxHeartbeats 8000000 in
theorem netPlays_any (most : Nat) (v : Value) (ss : List StepD) (w : World) (hv : Steps w v ss) (hn : ss.length ≤ 140737488355328) (hl : ∀ s ∈ ss, s.d.b.length ≤ 140737488355328) (hm1 : 1 ≤ most) (hm2 : most ≤ 256) :
    Calls Try.prog 4 #[.int .i64 (most : Int), v] w fun e w' => e = .returned (.bool true) ∧ Below w.heap.size w w' := by
  obtain ⟨ao, ac, rfl, ha⟩ := id hv
  clear hv
  have hmi1 : ¬ (most : Int) < 1 := by omega
  have hmi2 : ¬ (256 : Int) < (most : Int) := by omega
  go_enter Try.func4, Try.ntmps4
  go_wp2_with fail
  refine (nsnew most hm1 hm2 w).mono ?_
  rintro e w1 ⟨rfl, hn1, hb1⟩
  have hF1 : ∀ k, (fun k => k = w.heap.size) k → w.heap.size ≤ k := fun k hk => by have e : k = w.heap.size := hk; omega
  go_wp2_with fail
  refine (nknown_any w1).mono ?_
  rintro e w2 ⟨rfl, hb2⟩
  have hn2 := hn1.below hb2
  have hB2 := hb1.trans (hb2.mono hb1.size)
  clear hn1 hb1 hb2
  go_upto_block 0 with fail
  have hA : Below w2.heap.size w2 (w2.alloc (.cells (refC most 0 (.slice none 0 0)) 39)) := (Below.refl _ _).alloc (Nat.le_refl _) _
  have hT : Two w (w2.alloc (.cells (refC most 0 (.slice none 0 0)) 39)) w.heap.size w2.heap.size most 0 0 [] [] (fun k => k = w.heap.size) (fun k => k = w2.heap.size) := by
    have hz := hB2.size
    have hlt := hn2.lt _ hn2.fb
    refine ⟨hn2.below hA, ⟨⟨_, [], ⟨heap_alloc_new w2 _, ⟨rfl, Or.inl ⟨rfl, rfl⟩⟩, by simp, rfl, fun k h => by simp [Value.ownBlock] at h, by simp, fun k h => ?_⟩, rfl⟩, Nat.zero_le _, by simp⟩, fun k h1 h2 => ?_, hF1, fun k h => ?_, hB2.trans (hA.mono hz)⟩
    · have h' : k = w2.heap.size := h
      simp [h']
    · have e1 : k = w.heap.size := h1
      have e2 : k = w2.heap.size := h2
      omega
    · have e2 : k = w2.heap.size := h
      omega
  generalize w2.alloc (.cells (refC most 0 (.slice none 0 0)) 39) = w3 at *
  clear hn2 hB2 hA hF1
  generalize w2.heap.size = rb at *
  generalize hNB : w.heap.size = nb at *
  go_cut [8, 9, 10, 11, 12, 13, 14, 15, 16, 17, 18, 19, 20, 21] from 50 to 176 (fun _ _ _ _ _ _ _ _ _ _ _ _ _ _ wc => ∃ (lost : Nat) (ds : List Dg) (F R : Nat → Prop), Two w wc nb rb most lost lost ds ds F R)
  case first =>
    go_wp2
    go_loopw [8] (fun i wr => ∃ (j lost : Nat) (ds : List Dg) (F R : Nat → Prop), j ≤ ss.length ∧ j ≤ 1000 ∧ i = .int .i64 (j : Int) ∧ lost ≤ j ∧ Two w wr nb rb most lost lost ds ds F R) (fun i _ => ss.length - (intOf i).toNat)
    case atStart => exact ⟨0, 0, [], _, _, Nat.zero_le _, Nat.zero_le _, rfl, Nat.le_refl _, hT⟩
    case round =>
      obtain ⟨j, lost, ds, F, R, hj, hj2, rfl, hlo, hC⟩ := hrel
      clear hT
      have hbr := hC.bel
      have hbs := hbr.size
      by_cases hlt : j < ss.length ∧ j < 1000
      · obtain ⟨hlt1, hlt2⟩ := hlt
        obtain ⟨blk, off, rfl, hblk, hat⟩ := ha (by intro e; subst e; simp at hlt1)
        obtain ⟨b0, b1, b2, b3, x, b4, hx0⟩ := hat j hlt1
        have hblk' : blk < w.heap.size := by omega
        have a0 := (hbr.cell (p := ⟨blk, off + j * 5, none⟩) hblk').trans b0
        have a1 := (hbr.cell (p := ⟨blk, off + j * 5 + 1, none⟩) hblk').trans b1
        have a2 := (hbr.cell (p := ⟨blk, off + j * 5 + 2, none⟩) hblk').trans b2
        have a3 := (hbr.cell (p := ⟨blk, off + j * 5 + 3, none⟩) hblk').trans b3
        have a4 := (hbr.cell (p := ⟨blk, off + j * 5 + 4, none⟩) hblk').trans b4
        have hx := hx0.below hbr
        clear b0 b1 b2 b3 b4
        have hlb := hl ss[j] (List.getElem_mem hlt1)
        have hj0 : (j : Int) < (ss.length : Int) := by omega
        clear hat ha hl
        generalize ss[j] = s at *
        obtain ⟨what, k, ⟨frm, tt, l⟩⟩ := s
        simp only at *
        obtain ⟨xo, xc, rfl⟩ := hx.slice
        go_upto_if 68 with fail
        have hA : Below wr.heap.size wr (wr.alloc (.cells #[.int .i64 what, .int .i64 k, .int .i64 frm, .int .i64 tt, .slice xo l.length xc] 41)) := (Below.refl _ _).alloc (Nat.le_refl _) _
        have hxb := heap_alloc_new wr (.cells #[.int .i64 what, .int .i64 k, .int .i64 frm, .int .i64 tt, .slice xo l.length xc] 41)
        have hCx := hC.below hA
        have hlx := hx.below hA
        have hxbR : ∀ q, R q → q < wr.heap.size := hC.rs.lt
        have hxbF : ∀ q, F q → q < wr.heap.size := hC.ns.lt
        have hxbw : nb ≤ wr.heap.size := by omega
        have hxsz : wr.heap.size < (wr.alloc (.cells #[.int .i64 what, .int .i64 k, .int .i64 frm, .int .i64 tt, .slice xo l.length xc] 41)).heap.size := by simp
        generalize wr.alloc (.cells #[.int .i64 what, .int .i64 k, .int .i64 frm, .int .i64 tt, .slice xo l.length xc] 41) = wx at *
        clear hC hbr hbs hx a0 a1 a2 a3 a4 hA
        generalize wr.heap.size = xb at *
        obtain ⟨rv, r2, r1, hdg, ro, rc, hrv⟩ := hCx.rs.cells
        subst hrv
        have hle := hCx.rs.le
        have x1 := cell_of_row wx _ 1 _ _ _ hxb
        simp at x1
        go_cut [10] from 50 to 176 (fun a wc => (∃ kk : Int, a = .int .i64 kk) ∧ Below wx.heap.size wx wc)
        case first =>
          by_cases h8 : 8 ≤ what
          · go_wp2
            go_quiet ((go_at_call 14; exact Calls.quiet_of_same ((pick_any k (ds.length + 1) (by omega) (by omega) _).mono (fun e w' h => ⟨h.1, h.2.symm⟩))))
            go_wp2
            go_meet
            exact ⟨⟨_, rfl⟩, below_drewN0 _ _⟩
          · go_wp2
            go_meet
            exact ⟨⟨_, rfl⟩, Below.refl _ _⟩
        case rest =>
          obtain ⟨⟨kk, rfl⟩, hbx⟩ := hcut
          obtain ⟨wy, hwy⟩ : ∃ x, x = wc := ⟨_, rfl⟩
          subst hwy
          have hCy := hCx.below hbx
          have hly := hlx.below hbx
          have hyb := (hbx.block xb hxsz).trans hxb
          have hysz : xb < wy.heap.size := by have := hbx.size; omega
          clear hCx hlx hxb hxsz hbx r2 r1 hdg x1
          have y0 := cell_of_row wy _ 0 _ _ _ hyb
          simp at y0
          have HP := pick5p what
          go_upto_block 2 with (go_at_call 14; refine (pick_any what 5 (by omega) (by omega) _).mono ?_; rintro e w0 ⟨rfl, rfl⟩)
          generalize pickN what 5 = pk at *
          go_cut [11, 12, 13, 14, 15, 16, 17, 18, 19, 20, 21] from 50 to 176 (fun ok _ _ _ _ _ _ _ _ _ _ wc => ok = .bool true ∧ ∃ (lost' : Nat) (ds' : List Dg) (F' R' : Nat → Prop), lost' ≤ j + 1 ∧ Two w wc nb rb most lost' lost' ds' ds' F' R')
          case first =>
            have hRy : ∀ q, R q → q < wy.heap.size := hCy.rs.lt
            have hFy : ∀ q, F q → q < wy.heap.size := hCy.ns.lt
            have hby := hCy.bel.size
            obtain ⟨pd, hpd⟩ : ∃ pd, Hid (pd = peekD ds kk) := ⟨_, rfl⟩
            obtain ⟨hb0, hhb⟩ : ∃ x, Hid (x = hasB ds.length kk) := ⟨_, rfl⟩
            obtain ⟨db0, hdb⟩ : ∃ x, Hid (x = doubB most ds kk) := ⟨_, rfl⟩
            obtain ⟨sb0, hsb⟩ : ∃ x, Hid (x = sendB most ds ⟨frm, tt, l⟩) := ⟨_, rfl⟩
            clear HP
            by_cases hp2 : pk = 2
            · subst hp2
              clear hly hyb y0 hlb
              go_wp2_with (first
                | (go_at_call 11; refine (nstake nb most lost ds F kk wy hCy.ns (by omega)).mono ?_; rintro e w5 ⟨v5, rfl, ho5, hn5, hk5⟩; rw [← hhb.out, ← hpd.out]; rw [← hpd.out] at ho5; have hC5 := hCy.left hn5 hk5 (Grown.refl _ _); have hs5 := hk5.size; obtain ⟨yo, yc, hye⟩ := ho5.bs.slice; subst hye; have hA5 : Below w5.heap.size w5 (w5.alloc (.cells #[.int .i64 pd.frm, .int .i64 pd.to, .slice yo pd.b.length yc] 30)) := (Below.refl _ _).alloc (Nat.le_refl _) _; have hx5 := heap_alloc_new w5 (.cells #[.int .i64 pd.frm, .int .i64 pd.to, .slice yo pd.b.length yc] 30); have ho5a := ho5.keep (kept_of_below hA5 (fun _ => False)) (fun _ e => e.elim); have hC5a := hC5.below hA5)
                | (go_at_call 15; refine (rstake rb most lost ds R kk _ hC5a.rs (by omega)).mono ?_; rintro e w6 ⟨v6, R6, rfl, hb6, hn6, hk6, hg6⟩; rw [← hhb.out, ← hpd.out]; rw [← hpd.out] at hb6; have hC6 := hC5a.right hn6 hk6 hg6; have hx6 := (hk6.block w5.heap.size (by simp) (fun e => by have := hRy _ e; omega)).trans hx5; have ho6 := ho5a.keep hk6 hRy; have e0 := cell_of_row w6 _ 0 _ _ _ hx6; have e1 := cell_of_row w6 _ 1 _ _ _ hx6; have e2 := cell_of_row w6 _ 2 _ _ _ hx6; simp at e0 e1 e2; obtain ⟨zo, zc, hze⟩ := hb6.slice; subst hze; have hA6 : ∀ o, Below w6.heap.size w6 (w6.alloc o) := fun o => (Below.refl _ _).alloc (Nat.le_refl _) o; have hne6 : ¬ w5.heap.size = w6.heap.size := by { have := (Array.getElem?_eq_some_iff.1 hx6).1; omega }; have hlt6 : w5.heap.size < w6.heap.size := (Array.getElem?_eq_some_iff.1 hx6).1)
                | (go_at_call 16; refine (same_same pd _ _ _ (ho6.bs.below (hA6 _)) (hb6.below (hA6 _))).mono ?_; rintro e w7 ⟨rfl, hb7⟩))
              go_meet
              exact ⟨rfl, lost, _, F, R6, by omega, (hC6.below (hA6 _)).below hb7⟩
            · by_cases hp3 : pk = 3
              · subst hp3
                clear hly hyb y0 hlb hp2
                go_wp2_with (first
                  | (go_at_call 12; refine (nsdouble nb most lost ds F kk wy hCy.ns (by omega)).mono ?_; rintro e w5 ⟨F5, rfl, hn5, hk5, hg5⟩; rw [← hdb.out]; have hC5 := hCy.left hn5 hk5 hg5)
                  | (go_at_call 17; refine (rsdouble rb most lost ds R kk _ hC5.rs (by omega)).mono ?_; rintro e w6 ⟨R6, rfl, hn6, hk6, hg6⟩; rw [← hdb.out]; have hC6 := hC5.right hn6 hk6 hg6))
                go_meet
                exact ⟨rfl, lost, _, F5, R6, by omega, hC6⟩
              · by_cases hp4 : pk = 4
                · subst hp4
                  clear hly hyb y0 hlb hp2 hp3
                  go_wp2_with (first
                    | (go_at_call 18; refine (nspeek nb most lost ds F kk wy hCy.ns).mono ?_; rintro e w5 ⟨v5, rfl, ho5, hb5⟩; rw [← hhb.out, ← hpd.out]; rw [← hpd.out] at ho5; have hC5 := hCy.below hb5; obtain ⟨yo, yc, hye⟩ := ho5.bs.slice; subst hye; have hA5 : Below w5.heap.size w5 (w5.alloc (.cells #[.int .i64 pd.frm, .int .i64 pd.to, .slice yo pd.b.length yc] 30)) := (Below.refl _ _).alloc (Nat.le_refl _) _; have hx5 := heap_alloc_new w5 (.cells #[.int .i64 pd.frm, .int .i64 pd.to, .slice yo pd.b.length yc] 30); have ho5a := ho5.bs.below hA5; have hC5a := hC5.below hA5)
                    | (go_at_call 19; refine (rspeek rb most lost ds R kk _ hC5a.rs).mono ?_; rintro e w6 ⟨v6, rfl, hb6, hbl6⟩; rw [← hhb.out, ← hpd.out]; rw [← hpd.out] at hb6; have hC6 := hC5a.below hbl6; have hx6 := (hbl6.block w5.heap.size (by simp)).trans hx5; have ho6 := ho5a.below hbl6; have hb6' := hb6.below hbl6; have e0 := cell_of_row w6 _ 0 _ _ _ hx6; have e1 := cell_of_row w6 _ 1 _ _ _ hx6; have e2 := cell_of_row w6 _ 2 _ _ _ hx6; simp at e0 e1 e2; obtain ⟨zo, zc, hze⟩ := hb6.slice; subst hze; have hA6 : ∀ o, Below w6.heap.size w6 (w6.alloc o) := fun o => (Below.refl _ _).alloc (Nat.le_refl _) o; have hne6 : ¬ w5.heap.size = w6.heap.size := by { have := (Array.getElem?_eq_some_iff.1 hx6).1; omega }; have hlt6 : w5.heap.size < w6.heap.size := (Array.getElem?_eq_some_iff.1 hx6).1)
                    | (go_at_call 16; refine (same_same pd _ _ _ (ho6.below (hA6 _)) (hb6'.below (hA6 _))).mono ?_; rintro e w7 ⟨rfl, hb7⟩))
                  go_meet
                  exact ⟨rfl, lost, ds, F, R, by omega, (hC6.below (hA6 _)).below hb7⟩
                · have e2 : ((pk : Int) == 2) = false := by rw [beq_eq_false_iff_ne]; omega
                  have e3 : ((pk : Int) == 3) = false := by rw [beq_eq_false_iff_ne]; omega
                  have e4 : ((pk : Int) == 4) = false := by rw [beq_eq_false_iff_ne]; omega
                  have y2 := cell_of_row wy _ 2 _ _ _ hyb
                  have y3 := cell_of_row wy _ 3 _ _ _ hyb
                  have y4 := cell_of_row wy _ 4 _ _ _ hyb
                  simp at y2 y3 y4
                  go_upto_region 19 with (go_at_call 20; refine (rcopy_any ⟨frm, tt, l⟩ _ wy hly hlb).mono ?_; rintro e w5 ⟨v5, rfl, ho5, hb5⟩; obtain ⟨vo, vn, vc, hve⟩ := own_form3 ho5; subst hve)
                  have hA5 : Below w5.heap.size w5 (w5.alloc (.cells #[.int .i64 frm, .int .i64 tt, .slice vo vn vc] 30)) := (Below.refl _ _).alloc (Nat.le_refl _) _
                  have hs5 := hb5.size
                  have hCo := (hCy.below hb5).below hA5
                  have hbo := (Bs.ofOwns ho5).below hA5
                  have hyo := (hA5.block xb (by omega)).trans ((hb5.block xb hysz).trans hyb)
                  have hOw : Own (w5.alloc (.cells #[.int .i64 frm, .int .i64 tt, .slice vo vn vc] 30)) w5.heap.size frm tt (.slice vo vn vc) l.length F R nb := by
                    refine ⟨heap_alloc_new w5 _, ⟨fun e => by have := hFy _ e; omega, fun e => by have := hRy _ e; omega⟩, ?_⟩
                    obtain ⟨_, h1 | ⟨g', cap', cur, h1, h2, h3, h4, _, h5, _⟩⟩ := ho5
                    · exact Or.inl h1
                    · have hg' : g' < w5.heap.size := (Array.getElem?_eq_some_iff.1 h3).1
                      exact Or.inr ⟨g', cap', h1, by omega, by omega, fun e => by have := hFy _ e; omega, fun e => by have := hRy _ e; omega, _, (hA5.block g' hg').trans h3, by omega⟩
                  have hobx : xb < w5.heap.size := by omega
                  generalize w5.alloc (.cells #[.int .i64 frm, .int .i64 tt, .slice vo vn vc] 30) = wo at *
                  clear ho5 hb5 hA5 hCy hly hyb y0 y2 y3 y4
                  generalize w5.heap.size = ob at *
                  have hCd := hCo.below ((Below.refl _ wo).drew)
                  have hOd := hOw.below ((Below.refl _ wo).drew)
                  have hbd := hbo.below ((Below.refl _ wo).drew)
                  have hyd : wo.drew.heap[xb]? = some (.cells #[.int .i64 what, .int .i64 k, .int .i64 frm, .int .i64 tt, .slice xo l.length xc] 41 (0, 0)) := hyo
                  have hSt : Stp wo.drew ob xb frm tt (.slice vo vn vc) what k (.slice xo l.length xc) := ⟨hOd.box, hyd⟩
                  have K0 : ∀ W, Stp W ob xb frm tt (.slice vo vn vc) what k (.slice xo l.length xc) → W.cell? ⟨ob, 0, none⟩ = some (.int .i64 frm) := fun W h => cell_of_row W ob 0 _ _ _ h.1
                  have K1 : ∀ W, Stp W ob xb frm tt (.slice vo vn vc) what k (.slice xo l.length xc) → W.cell? ⟨ob, 1, none⟩ = some (.int .i64 tt) := fun W h => cell_of_row W ob 1 _ _ _ h.1
                  have K2 : ∀ W, Stp W ob xb frm tt (.slice vo vn vc) what k (.slice xo l.length xc) → W.cell? ⟨ob, 2, none⟩ = some (.slice vo vn vc) := fun W h => cell_of_row W ob 2 _ _ _ h.1
                  have L0 : ∀ W, Stp W ob xb frm tt (.slice vo vn vc) what k (.slice xo l.length xc) → W.cell? ⟨xb, 2, none⟩ = some (.int .i64 frm) := fun W h => cell_of_row W xb 2 _ _ _ h.2
                  have L1 : ∀ W, Stp W ob xb frm tt (.slice vo vn vc) what k (.slice xo l.length xc) → W.cell? ⟨xb, 3, none⟩ = some (.int .i64 tt) := fun W h => cell_of_row W xb 3 _ _ _ h.2
                  have L2 : ∀ W, Stp W ob xb frm tt (.slice vo vn vc) what k (.slice xo l.length xc) → W.cell? ⟨xb, 4, none⟩ = some (.slice xo l.length xc) := fun W h => cell_of_row W xb 4 _ _ _ h.2
                  go_cut [11] from 50 to 176 (fun ok wc => ok = .bool true ∧ ∃ (F' R' : Nat → Prop), Two w wc nb rb most (sendN most lost ds ⟨frm, tt, l⟩) (sendN most lost ds ⟨frm, tt, l⟩) (sendL most ds ⟨frm, tt, l⟩) (sendL most ds ⟨frm, tt, l⟩) F' R' ∧ Own wc ob frm tt (.slice vo vn vc) l.length F' R' nb)
                  case first =>
                    go_region_held (fun W => Stp W ob xb frm tt (.slice vo vn vc) what k (.slice xo l.length xc)) (assumption) (first
                      | (go_at_call 10; refine (nssend nb most lost ds F ⟨frm, tt, l⟩ _ _ hCd.ns hbd (by omega) (by omega)).mono ?_; rintro e w6 ⟨F6, rfl, hn6, hk6, hg6⟩; rw [← hsb.out]; have hC6 := hCd.left hn6 hk6 hg6; have hO6 := hOd.keep hk6 (fun _ e => Or.inl e) hg6 (Grown.refl _ _); have hS6 : Stp w6 ob xb frm tt (.slice vo vn vc) what k (.slice xo l.length xc) := ⟨hO6.box, (hk6.block xb (Array.getElem?_eq_some_iff.1 hyd).1 (fun e => by have := hxbF _ e; omega)).trans hyd⟩)
                      | (go_at_call 21; refine (rssend rb most lost ds R ⟨frm, tt, l⟩ _ _ hC6.rs (hx0.below hC6.bel) (by omega) (by omega)).mono ?_; rintro e w7 ⟨R7, rfl, hn7, hk7, hg7⟩; rw [← hsb.out]; have hC7 := hC6.right hn7 hk7 hg7; have hO7 := hO6.keep hk7 (fun _ e => Or.inr e) (Grown.refl _ _) hg7; have hS7 : Stp w7 ob xb frm tt (.slice vo vn vc) what k (.slice xo l.length xc) := ⟨hO7.box, (hk7.block xb (Array.getElem?_eq_some_iff.1 hS6.2).1 (fun e => by have := hxbR _ e; omega)).trans hS6.2⟩))
                    all_goals
                      go_wp2
                      go_meet
                      exact ⟨rfl, F6, R7, hC7, hO7⟩
                  case rest =>
                    obtain ⟨rfl, F7, R7, hC7, hO7⟩ := hcut
                    obtain ⟨w8, hw8⟩ : ∃ x, x = wc := ⟨_, rfl⟩
                    subst hw8
                    clear K0 K1 K2 L0 L1 L2 hSt hyd hbd hOd hCd hyo hOw hbo hCo
                    have hlN : sendN most lost ds ⟨frm, tt, l⟩ ≤ j + 1 := by unfold sendN; split <;> omega
                    generalize sendN most lost ds ⟨frm, tt, l⟩ = lost7 at *
                    generalize sendL most ds ⟨frm, tt, l⟩ = ds7 at *
                    rcases hO7.val with ⟨hve, hn0⟩ | ⟨gk, cap, hve, hgo, hgB, hgF, hgR, hWG⟩
                    · simp only [Value.slice.injEq] at hve
                      obtain ⟨rfl, rfl, rfl⟩ := hve
                      have c2 := cell_of_row w8 _ 2 _ _ _ hO7.box
                      simp at c2
                      go_wp2
                      go_loopw [21] (fun i wp => i = .int .i64 0 ∧ wp = w8) (fun _ _ => 0)
                      case atStart => exact ⟨rfl, rfl⟩
                      case round =>
                        obtain ⟨rfl, hwe⟩ := hrel
                        subst hwe
                        go_wp2
                        go_meet
                        exact ⟨rfl, lost7, ds7, F7, R7, hlN, hC7⟩
                    · simp only [Value.slice.injEq] at hve
                      obtain ⟨rfl, rfl, rfl⟩ := hve
                      have hbx := hO7.box
                      go_wp2
                      go_loopw [21] (fun i wp => ∃ p : Nat, i = .int .i64 (p : Int) ∧ p ≤ l.length ∧ Two w wp nb rb most lost7 lost7 ds7 ds7 F7 R7 ∧ wp.heap[ob]? = some (.cells #[.int .i64 frm, .int .i64 tt, .slice (some ⟨gk, 0, none⟩) l.length vc] 30 (0, 0)) ∧ WG wp gk l.length) (fun i _ => l.length - (intOf i).toNat)
                      case atStart => exact ⟨0, rfl, Nat.zero_le _, hC7, hbx, hWG⟩
                      case round =>
                        obtain ⟨p, rfl, hp, hCp, hbp, hWp⟩ := hrel
                        clear hC7 hbx hWG hO7
                        have c2 := cell_of_row wr _ 2 _ _ _ hbp
                        simp at c2
                        by_cases hlp : p < l.length
                        · have hp0 : (p : Int) < (l.length : Int) := by omega
                          obtain ⟨⟨u, hu⟩, hf⟩ := hWp.at p hlp
                          go_wp2
                          go_roundw
                          case rel => exact ⟨p + 1, by go_num, by omega, hCp.keep (Kept.setCell wr ⟨gk, p, none⟩ _) (fun q e => by have e' : q = gk := e; rw [e']; exact ⟨hgF, hgR, by omega⟩), (Below.heap_setCell _ _ _ _ (fun e => hgo e.symm)).trans hbp, hWp.set p _⟩
                          case measure => simp [intOf]; omega
                        · have hp0 : ¬ (p : Int) < (l.length : Int) := by omega
                          go_wp2
                          go_meet
                          exact ⟨rfl, lost7, ds7, F7, R7, hlN, hCp⟩
          case rest =>
            obtain ⟨rfl, lost', ds', F', R', hlo', hC'⟩ := hcut
            obtain ⟨wz, hwz⟩ : ∃ x, x = wc := ⟨_, rfl⟩
            subst hwz
            clear hCy hly hyb y0 HP
            obtain ⟨rv, r2, r1, _, ro', rc', hrv⟩ := hC'.rs.cells
            subst hrv
            go_wp2
            go_quiet ((first
              | (go_at_call 22; exact Calls.quiet_of_same ((nslen nb most lost' ds' F' _ (hC'.ns.below (below_drewN0 _ _))).mono (fun e w' h => ⟨h.1, h.2.symm⟩)))
              | (go_at_call 23; exact Calls.quiet_of_same ((nslost nb most lost' ds' F' _ (hC'.ns.below (below_drewN0 _ _))).mono (fun e w' h => ⟨h.1, h.2.symm⟩)))))
            have hcd := below_drewN0 wz nq
            have hCd := hC'.below hcd
            clear r2 r1
            go_wp2
            refine ⟨⟨j + 1, lost', ds', F', R', by omega, by omega, by go_num, by omega, hCd⟩, ?_⟩
            simp [intOf]; omega
      · clear ha hl
        by_cases hlt1 : j < ss.length
        · have hlt2 : ¬ (j : Int) < 1000 := by omega
          have hlt3 : (j : Int) < (ss.length : Int) := by omega
          go_wp2
          go_meet
          exact ⟨lost, ds, F, R, hC⟩
        · have hlt3 : ¬ (j : Int) < (ss.length : Int) := by omega
          go_wp2
          go_meet
          exact ⟨lost, ds, F, R, hC⟩
  case rest =>
    obtain ⟨lost, ds, F, R, hC⟩ := hcut
    obtain ⟨wz, hwz⟩ : ∃ x, x = wc := ⟨_, rfl⟩
    subst hwz
    obtain ⟨rv, r2, r1, hdg, ro, rc, rfl⟩ := hC.rs.cells
    have hrb := hC.rs.lt rb
    have hrbR : rb < wz.heap.size := by
      obtain ⟨_, _, hnn, _⟩ := hC.rs.net
      exact NT.size hnn
    have q0 : Below wz.heap.size wz wz.drew := (Below.refl _ _).drew
    have C2 : ∀ W, Below wz.heap.size wz W → W.cell? ⟨rb, 2, none⟩ = some (.slice ro ds.length rc) := fun W h => (h.cell (p := ⟨rb, 2, none⟩) hrbR).trans r2
    clear r1 r2 hT ha hl hrb
    have hle := hC.ns.le
    go_wp2
    go_region_held (fun W => Below wz.heap.size wz W) (assumption) (first
      | (go_at_call 13; refine (nsall nb most lost ds F _ (hC.ns.below q0) (by omega)).mono ?_; rintro e wa ⟨va, ga, rsa, rfl, hma, hda, hba⟩; have qa : Below wz.heap.size wz wa := q0.trans (hba.mono q0.size))
      | (go_at_call 24; refine (datagrams_same _ _ ds _ (hda.dgs hma) (hdg.below qa) (by omega)).mono ?_; rintro e wb ⟨rfl, hbb⟩; have qb : Below wz.heap.size wz wb := qa.trans (hbb.mono qa.size)))
    all_goals
      go_wp2
      go_ret
      have hz := hC.bel.size
      exact ⟨rfl, hC.bel.trans (qb.mono hz)⟩

end Go.Proofs.Ytibgpbflchfbnaa
