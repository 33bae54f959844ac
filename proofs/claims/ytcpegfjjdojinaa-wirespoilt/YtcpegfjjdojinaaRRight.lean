/- The plain Right: its walk. -/
import Derived.Test.YtcpegfjjdojinaaRTarget
import Derived.Deep.QuietTactic
import Derived.BigQuiet
namespace Go.Proofs.Ytcpegfjjdojinaa
open Go.RowKit

def withinB (z lo hi : Int) : Bool := decide (lo ≤ z) && decide (z ≤ hi)
def badLists (m : Msg) : Bool := (decide (0 < m.refs.length) && !hasB m.kind 4096) || decide (2 < m.refs.length) || (decide (0 < m.list.length) && !hasB m.kind 16384) || decide (64 < m.list.length)
def headR (m : Msg) (c5 : Bool) : Bool := withinB m.kind 1 11 && withinB m.frm 1 64 && withinB m.to 1 64 && !(m.frm == m.to) && c5 && targetB m
/-- From place j on the list rises. -/
def stepR (l : List Nat) (j : Nat) : Bool := isSerialB (l.getD j 0) && (decide (j = 0) || decide (l.getD (j - 1) 0 < l.getD j 0))
def risesR (l : List Nat) : Nat → Bool
  | 0 => true
  | n + 1 => risesR l n && stepR l n
def rightR (m : Msg) (c5 : Bool) : Bool := headR m c5 && !badLists m && m.refs.all isIDB && risesR m.list m.list.length

theorem bel_drewR (w : World) (n : Nat) : Below w.heap.size w (w.drewN n) := ⟨rfl, rfl, rfl, Nat.le_refl _, fun _ _ => rfl⟩

theorem risesR_no {l : List Nat} {j : Nat} (h : stepR l j = false) : ∀ n, j < n → risesR l n = false := by
  intro n
  induction n with
  | zero => intro h; omega
  | succ n ih =>
    intro hn
    by_cases e : j = n
    · subst e; simp [risesR, h]
    · simp [risesR, ih (by omega)]
theorem all_take_no2 {l : List (Int × Nat)} {k : Nat} (hk : k < l.length) (h : isIDB l[k] = false) : l.all isIDB = false := by
  rw [List.all_eq_false]
  exact ⟨l[k], List.getElem_mem hk, by simp [h]⟩
theorem all_take_ok2 {l : List (Int × Nat)} {k : Nat} (hk : k < l.length) (h : (l.take k).all isIDB = true) (h2 : isIDB l[k] = true) : (l.take (k + 1)).all isIDB = true := by
  rw [List.take_succ_eq_append_getElem hk, List.all_append, h]
  simp [h2]

set_option maxRecDepth 40000 in
set_option maxHeartbeats 40000000 in
theorem rright_any (m : Msg) (c5 : Bool) (ro lo : Option Addr) (rc lc : Nat) (hnu : ∀ w, Calls Try.prog 36 #[m.v ro lo rc lc] w fun e w' => e = .returned (.bool c5) ∧ Below w.heap.size w w') (w : World) (hr : IDs w ro m.refs) (hlr : m.refs.length ≤ 140737488355328) (hl : Us w lo m.list) (hll : m.list.length ≤ 140737488355328) :
    Calls Try.prog 15 #[m.v ro lo rc lc] w fun e w' => e = .returned (.bool (rightR m c5)) ∧ Below w.heap.size w w' := by
  have hbox := MBox.new w m ro lo rc lc
  have K := fun W hb => (hbox.later (B := w.heap.size + 1) (by omega) W hb).cells
  have hk0 := fun W hb => (K W hb).1
  have hk1 := fun W hb => (K W hb).2.1
  have hk2 := fun W hb => (K W hb).2.2.1
  have hk10 := fun W hb => (K W hb).2.2.2.2.2.2.2.2.2.2.1
  have hk18 := fun W hb => (K W hb).2.2.2.2.2.2.2.2.2.2.2.2.2.2.2.2.2.2
  have hL := fun W hb => hbox.later (B := w.heap.size + 1) (by omega) W hb
  clear K
  obtain ⟨w0, hw0⟩ : ∃ w0, w0 = w.alloc (.cells #[.int .i64 m.kind, .int .i64 m.frm, .int .i64 m.to, .int .u64 (m.call : Int), .int .u64 (m.floor : Int), .int .i64 m.op, .int .i64 m.fld, .int .i64 m.item,
    .int .i64 m.tn, .int .u64 (m.ts : Int), .slice ro m.refs.length rc, .int .u64 (m.val : Int), .int .i64 m.code, .int .u64 (m.seq : Int), .int .i64 m.vou, .int .u64 (m.at_ : Int), .int .i64 m.dist, .int .u64 (m.stamp : Int), .slice lo m.list.length lc] 28) := ⟨_, rfl⟩
  have hb0 : Below w.heap.size w w0 := by rw [hw0]; exact (Below.refl _ _).alloc (Nat.le_refl _) _
  have hs0 : w0.heap.size = w.heap.size + 1 := by rw [hw0]; simp
  rw [← hw0] at hbox hk0 hk1 hk2 hk10 hk18 hL
  have HW : Hid (w.alloc (.cells #[.int .i64 m.kind, .int .i64 m.frm, .int .i64 m.to, .int .u64 (m.call : Int), .int .u64 (m.floor : Int), .int .i64 m.op, .int .i64 m.fld, .int .i64 m.item,
    .int .i64 m.tn, .int .u64 (m.ts : Int), .slice ro m.refs.length rc, .int .u64 (m.val : Int), .int .i64 m.code, .int .u64 (m.seq : Int), .int .i64 m.vou, .int .u64 (m.at_ : Int), .int .i64 m.dist, .int .u64 (m.stamp : Int), .slice lo m.list.length lc] 28) = w0) := hw0.symm
  clear hw0
  have HR : Hid (rightR m c5 = (headR m c5 && !badLists m && m.refs.all isIDB && risesR m.list m.list.length)) := rfl
  have HH : Hid (headR m c5 = (withinB m.kind 1 11 && withinB m.frm 1 64 && withinB m.to 1 64 && !(m.frm == m.to) && c5 && targetB m)) := rfl
  have HB : Hid (badLists m = ((decide (0 < m.refs.length) && !hasB m.kind 4096) || decide (2 < m.refs.length) || (decide (0 < m.list.length) && !hasB m.kind 16384) || decide (64 < m.list.length))) := rfl
  have hwi1 := fun w => rwithin_any m.kind 1 11 w
  have hwi2 := fun w => rwithin_any m.frm 1 64 w
  have hwi3 := fun w => rwithin_any m.to 1 64 w
  have hta := fun w => rtarget_any m ro lo rc lc w
  have h4096 := fun w => rhas_any m.kind 4096 (by unfold Fld; omega) [114, 101, 102, 115] rfl w
  have h16384 := fun w => rhas_any m.kind 16384 (by unfold Fld; omega) [108, 105, 115, 116] rfl w
  have e1 : (decide ((1 : Int) ≤ m.kind) && decide (m.kind ≤ 11)) = withinB m.kind 1 11 := rfl
  have e2 : (decide ((1 : Int) ≤ m.frm) && decide (m.frm ≤ 64)) = withinB m.frm 1 64 := rfl
  have e3 : (decide ((1 : Int) ≤ m.to) && decide (m.to ≤ 64)) = withinB m.to 1 64 := rfl
  rw [e1] at hwi1
  rw [e2] at hwi2
  rw [e3] at hwi3
  clear e1 e2 e3
  generalize rightR m c5 = G at *
  generalize headR m c5 = GH at *
  generalize badLists m = GB at *
  generalize withinB m.kind 1 11 = c1 at *
  generalize withinB m.frm 1 64 = c2 at *
  generalize withinB m.to 1 64 = c3 at *
  generalize targetB m = c6 at *
  generalize hasB m.kind 4096 = p1 at *
  generalize hasB m.kind 16384 = p2 at *
  have hr0 := hr.below hb0
  have hl0 := hl.below hb0
  go_enter Try.func15, Try.ntmps15
  go_upto_region 1 with fail
  rw [HW.out]
  go_cut [37] from 5 (fun a wc => a = .bool (!GH) ∧ Below (w.heap.size + 1) w0 wc)
  case first =>
    have r0 := Below.refl (w.heap.size + 1) w0
    have hx0 := hL w0 r0
    have a0 := hk0 w0 r0
    have a1 := hk1 w0 r0
    have a2 := hk2 w0 r0
    cases c1
    · have E : GH = false := HH.out
      subst E
      clear HR HB
      go_wp2_with (go_at_call 35; refine (hwi1 _).mono ?_; rintro e w9 ⟨rfl, rfl⟩)
      go_meet
      exact ⟨rfl, r0⟩
    cases c2
    · have E : GH = false := HH.out
      subst E
      clear HR HB
      go_wp2_with (first
        | (go_at_call 35; refine (hwi1 _).mono ?_; clear hwi1; rintro e w9 ⟨rfl, rfl⟩)
        | (go_at_call 35; refine (hwi2 _).mono ?_; rintro e w9 ⟨rfl, rfl⟩))
      go_meet
      exact ⟨rfl, r0⟩
    cases c3
    · have E : GH = false := HH.out
      subst E
      clear HR HB
      go_wp2_with (first
        | (go_at_call 35; refine (hwi1 _).mono ?_; clear hwi1; rintro e w9 ⟨rfl, rfl⟩)
        | (go_at_call 35; refine (hwi2 _).mono ?_; clear hwi2; rintro e w9 ⟨rfl, rfl⟩)
        | (go_at_call 35; refine (hwi3 _).mono ?_; rintro e w9 ⟨rfl, rfl⟩))
      go_meet
      exact ⟨rfl, r0⟩
    by_cases hft : (m.frm == m.to) = true
    · have E : GH = false := by rw [HH.out, hft]; rfl
      subst E
      clear HR HB HH
      go_wp2_with (first
        | (go_at_call 35; refine (hwi1 _).mono ?_; clear hwi1; rintro e w9 ⟨rfl, rfl⟩)
        | (go_at_call 35; refine (hwi2 _).mono ?_; clear hwi2; rintro e w9 ⟨rfl, rfl⟩)
        | (go_at_call 35; refine (hwi3 _).mono ?_; rintro e w9 ⟨rfl, rfl⟩))
      go_meet
      exact ⟨rfl, r0⟩
    have hft : (m.frm == m.to) = false := by simpa using hft
    cases c5
    · have E : GH = false := by rw [HH.out, hft]; rfl
      subst E
      clear HR HB HH
      go_wp2_with (first
        | (refine load_msg _ rfl (by rfl) _ rfl m ro lo rc lc hx0 ?_)
        | (go_at_call 35; refine (hwi1 _).mono ?_; clear hwi1; rintro e w9 ⟨rfl, rfl⟩)
        | (go_at_call 35; refine (hwi2 _).mono ?_; clear hwi2; rintro e w9 ⟨rfl, rfl⟩)
        | (go_at_call 35; refine (hwi3 _).mono ?_; clear hwi3; rintro e w9 ⟨rfl, rfl⟩)
        | (go_at_call 36; refine (hnu _).mono ?_; rintro e w1 ⟨rfl, hb1⟩))
      go_meet
      exact ⟨rfl, hb1.mono (by omega)⟩
    have E : GH = c6 := by rw [HH.out, hft]; rfl
    subst E
    clear HR HB HH
    cases GH
    · go_wp2_with (first
        | (refine load_msg _ rfl (by rfl) _ rfl m ro lo rc lc hx0 ?_)
        | (refine load_msg _ rfl (by rfl) _ rfl m ro lo rc lc hx1 ?_)
        | (go_at_call 35; refine (hwi1 _).mono ?_; clear hwi1; rintro e w9 ⟨rfl, rfl⟩)
        | (go_at_call 35; refine (hwi2 _).mono ?_; clear hwi2; rintro e w9 ⟨rfl, rfl⟩)
        | (go_at_call 35; refine (hwi3 _).mono ?_; clear hwi3; rintro e w9 ⟨rfl, rfl⟩)
        | (go_at_call 36; refine (hnu _).mono ?_; clear hnu; rintro e w1 ⟨rfl, hb1⟩; clear hx0; have hx1 := hL w1 (hb1.mono (by omega)))
        | (go_at_call 37; refine (hta _).mono ?_; rintro e w2 ⟨rfl, hb2⟩))
      go_meet
      exact ⟨rfl, (hb1.mono (by omega)).trans (hb2.mono (by have := hb1.size; omega))⟩
    · go_wp2_with (first
        | (refine load_msg _ rfl (by rfl) _ rfl m ro lo rc lc hx0 ?_)
        | (refine load_msg _ rfl (by rfl) _ rfl m ro lo rc lc hx1 ?_)
        | (go_at_call 35; refine (hwi1 _).mono ?_; clear hwi1; rintro e w9 ⟨rfl, rfl⟩)
        | (go_at_call 35; refine (hwi2 _).mono ?_; clear hwi2; rintro e w9 ⟨rfl, rfl⟩)
        | (go_at_call 35; refine (hwi3 _).mono ?_; clear hwi3; rintro e w9 ⟨rfl, rfl⟩)
        | (go_at_call 36; refine (hnu _).mono ?_; clear hnu; rintro e w1 ⟨rfl, hb1⟩; clear hx0; have hx1 := hL w1 (hb1.mono (by omega)))
        | (go_at_call 37; refine (hta _).mono ?_; rintro e w2 ⟨rfl, hb2⟩))
      go_meet
      exact ⟨rfl, (hb1.mono (by omega)).trans (hb2.mono (by have := hb1.size; omega))⟩
  case rest =>
    obtain ⟨rfl, hbc⟩ := hcut
    have hzc := hbc.size
    clear HH hnu hta hwi1 hwi2 hwi3 hbox
    cases GH
    · have HG : Hid (G = false) := HR.out
      clear HR HB
      go_wp2
      go_ret
      exact ⟨congrArg (fun x => Ending.returned (.bool x)) HG.out.symm, hb0.trans (hbc.mono (by omega))⟩
    rw [Bool.true_and] at HR
    obtain ⟨wb, hwbx⟩ : ∃ x, x = wc := ⟨_, rfl⟩
    subst hwbx
    have a0 := hk0 wb hbc
    have a10 := hk10 wb hbc
    have a18 := hk18 wb hbc
    clear hk1 hk2 hL
    go_upto_region 3 with fail
    go_cut [71] from 5 (fun a wd => a = .bool GB ∧ Below (w.heap.size + 1) w0 wd)
    case first =>
      clear HR hr hl hr0 hl0 hk18 hk10 hk0
      have v18 := fun W (hb : Below wb.heap.size wb W) => (hb.cell (p := ⟨w.heap.size, 18, none⟩) (show w.heap.size < wb.heap.size by omega)).trans a18
      have v10 := fun W (hb : Below wb.heap.size wb W) => (hb.cell (p := ⟨w.heap.size, 10, none⟩) (show w.heap.size < wb.heap.size by omega)).trans a10
      have v0 := fun W (hb : Below wb.heap.size wb W) => (hb.cell (p := ⟨w.heap.size, 0, none⟩) (show w.heap.size < wb.heap.size by omega)).trans a0
      generalize m.refs.length = rl at *
      generalize m.list.length = ll at *
      by_cases r0 : 0 < rl
      · have n0 : (0 : Int) < (rl : Int) := by omega
        go_wp2_with fail
        refine (h4096 wb).mono ?_
        rintro e x1 ⟨rfl, y1⟩
        have d1 : Below (w.heap.size + 1) w0 x1 := hbc.trans (y1.mono (by omega))
        have z1 := y1.size
        have a10' := v10 x1 y1
        have a18' := v18 x1 y1
        have a0' := v0 x1 y1
        clear a10 a18 a0 h4096
        cases p1
        · have E : GB = true := by rw [HB.out, decide_eq_true r0]; rfl
          subst E
          clear HB v18 v10 v0
          go_wp2
          go_meet
          exact ⟨rfl, d1⟩
        · by_cases r2 : 2 < rl
          · have n2 : (2 : Int) < (rl : Int) := by omega
            have E : GB = true := by rw [HB.out, decide_eq_true r2]; simp
            subst E
            clear HB v18 v10 v0
            go_wp2
            go_meet
            exact ⟨rfl, d1⟩
          · have n2 : ¬ (2 : Int) < (rl : Int) := by omega
            by_cases l0 : 0 < ll
            · have m0 : (0 : Int) < (ll : Int) := by omega
              go_wp2_with fail
              refine (h16384 x1).mono ?_
              rintro e x2 ⟨rfl, y2⟩
              have d2 : Below (w.heap.size + 1) w0 x2 := d1.trans (y2.mono (by omega))
              have a18'' := v18 x2 (y1.trans (y2.mono (by omega)))
              clear a10' a18' a0' h16384
              cases p2
              · have E : GB = true := by rw [HB.out, decide_eq_true l0]; simp
                subst E
                clear HB v18 v10 v0
                go_wp2
                go_meet
                exact ⟨rfl, d2⟩
              · by_cases l64 : 64 < ll
                · have m64 : (64 : Int) < (ll : Int) := by omega
                  have E : GB = true := by rw [HB.out, decide_eq_true l64]; simp
                  subst E
                  clear HB v18 v10 v0
                  go_wp2
                  go_meet
                  exact ⟨rfl, d2⟩
                · have m64 : ¬ (64 : Int) < (ll : Int) := by omega
                  have E : GB = false := by rw [HB.out, decide_eq_false r2, decide_eq_false l64]; simp
                  subst E
                  clear HB v18 v10 v0
                  go_wp2
                  go_meet
                  exact ⟨by first | rfl | exact congrArg Value.bool (by simp; omega), d2⟩
            · have m0 : ¬ (0 : Int) < (ll : Int) := by omega
              have m64 : ¬ (64 : Int) < (ll : Int) := by omega
              have E : GB = false := by rw [HB.out, decide_eq_false r2, decide_eq_false l0, decide_eq_false (show ¬ 64 < ll by omega)]; simp
              subst E
              clear HB v18 v10 v0
              go_wp2
              go_meet
              exact ⟨by first | rfl | exact congrArg Value.bool (by simp; omega), d1⟩
      · have n0 : ¬ (0 : Int) < (rl : Int) := by omega
        have n2 : ¬ (2 : Int) < (rl : Int) := by omega
        by_cases l0 : 0 < ll
        · have m0 : (0 : Int) < (ll : Int) := by omega
          go_wp2_with fail
          refine (h16384 wb).mono ?_
          rintro e x2 ⟨rfl, y2⟩
          have d2 : Below (w.heap.size + 1) w0 x2 := hbc.trans (y2.mono (by omega))
          have a18'' := v18 x2 y2
          clear a10 a18 a0 h16384
          cases p2
          · have E : GB = true := by rw [HB.out, decide_eq_true l0]; simp
            subst E
            clear HB v18 v10 v0
            go_wp2
            go_meet
            exact ⟨rfl, d2⟩
          · by_cases l64 : 64 < ll
            · have m64 : (64 : Int) < (ll : Int) := by omega
              have E : GB = true := by rw [HB.out, decide_eq_true l64]; simp
              subst E
              clear HB v18 v10 v0
              go_wp2
              go_meet
              exact ⟨rfl, d2⟩
            · have m64 : ¬ (64 : Int) < (ll : Int) := by omega
              have E : GB = false := by rw [HB.out, decide_eq_false r0, decide_eq_false (show ¬ 2 < rl by omega), decide_eq_false l64]; simp
              subst E
              clear HB v18 v10 v0
              go_wp2
              go_meet
              exact ⟨by first | rfl | exact congrArg Value.bool (by simp; omega), d2⟩
        · have m0 : ¬ (0 : Int) < (ll : Int) := by omega
          have m64 : ¬ (64 : Int) < (ll : Int) := by omega
          have E : GB = false := by rw [HB.out, decide_eq_false r0, decide_eq_false (show ¬ 2 < rl by omega), decide_eq_false l0, decide_eq_false (show ¬ 64 < ll by omega)]; simp
          subst E
          clear HB v18 v10 v0
          go_wp2
          go_meet
          exact ⟨by first | rfl | exact congrArg Value.bool (by simp; omega), hbc⟩
    case rest =>
      obtain ⟨rfl, hbd⟩ := hcut
      obtain ⟨wd, hwdx⟩ : ∃ x, x = wc := ⟨_, rfl⟩
      subst hwdx
      have hzd := hbd.size
      clear HB h4096 h16384 a0 a10 a18
      by_cases hGB : GB = true
      · subst hGB
        have HG : Hid (G = false) := HR.out
        clear HR
        go_wp2
        go_ret
        exact ⟨congrArg (fun x => Ending.returned (.bool x)) HG.out.symm, hb0.trans (hbd.mono (by omega))⟩
      have hGB : GB = false := by simpa using hGB
      subst hGB
      have HR2 : Hid (G = (m.refs.all isIDB && risesR m.list m.list.length)) := by show _ = _; rw [HR.out]; simp
      clear HR
      go_wp2
      go_loopw [3] (fun i wr => ∃ k : Nat, k ≤ m.refs.length ∧ i = .int .i64 (k : Int) ∧ (m.refs.take k).all isIDB = true ∧ Below (w.heap.size + 1) w0 wr) (fun i _ => m.refs.length - (intOf i).toNat)
      case atStart => exact ⟨0, Nat.zero_le _, rfl, rfl, hbd⟩
      case round =>
        obtain ⟨k, hk, rfl, hall, hbr⟩ := hrel
        have hzr := hbr.size
        have HA : Hid ((m.refs.take k).all isIDB = true) := hall
        clear hall
        have a10 := hk10 wr hbr
        by_cases hlt : k < m.refs.length
        · obtain ⟨blk, off, rfl, hblk, hat⟩ := hr (by intro e; rw [e] at hlt; simp at hlt)
          have hbw : Below w.heap.size w wr := hb0.trans (hbr.mono (by omega))
          have x0 := (hbw.cell (p := ⟨blk, off + k * 2, none⟩) hblk).trans (hat k hlt).1
          have x1 := (hbw.cell (p := ⟨blk, off + k * 2 + 1, none⟩) hblk).trans (hat k hlt).2
          have hid := fun w => rid_any m.refs[k] w
          have HN : Hid (isIDB m.refs[k] = false → m.refs.all isIDB = false) := fun h => all_take_no2 hlt h
          have HY : Hid (isIDB m.refs[k] = true → (m.refs.take (k + 1)).all isIDB = true) := fun h => all_take_ok2 hlt HA.out h
          clear hat hr hl hr0 hl0 hk0 hk18
          generalize isIDB m.refs[k] = q at *
          generalize m.refs[k] = x at *
          cases q
          · have HG : Hid (G = false) := by show _ = _; rw [HR2.out, HN.out (by first | rfl | trivial)]; rfl
            clear HR2
            go_wp2_with (go_at_call 39; refine (hid _).mono ?_; rintro e y1 ⟨rfl, hy1⟩)
            go_ret
            exact ⟨congrArg (fun x => Ending.returned (.bool x)) HG.out.symm, hbw.trans (hy1.mono hbw.size)⟩
          · go_wp2_with (go_at_call 39; refine (hid _).mono ?_; rintro e y1 ⟨rfl, hy1⟩)
            go_roundw
            case rel => exact ⟨k + 1, by omega, by go_num, HY.out (by first | rfl | trivial), hbr.trans (hy1.mono (by omega))⟩
            case measure => simp [intOf]; omega
        · have HE : Hid (m.refs.all isIDB = true) := by
            show _ = _
            have := HA.out
            rwa [List.take_of_length_le (by omega)] at this
          have HR3 : Hid (G = risesR m.list m.list.length) := by show _ = _; rw [HR2.out, HE.out]; rfl
          clear HR2 HE HA hk10 hk0 hr hr0 hl0
          go_wp2
          clear a10
          go_loopw [4] (fun i wr => ∃ j : Nat, j ≤ m.list.length ∧ i = .int .i64 (j : Int) ∧ risesR m.list j = true ∧ Below (w.heap.size + 1) w0 wr) (fun i _ => m.list.length - (intOf i).toNat)
          case atStart => exact ⟨0, Nat.zero_le _, rfl, rfl, hbr⟩
          case round =>
            obtain ⟨j, hj, rfl, hris, hbs⟩ := hrel
            have hzs := hbs.size
            have a18 := hk18 _ hbs
            have hbw := hb0.trans (hbs.mono (B' := w.heap.size) (by omega))
            have HS : Hid (risesR m.list j = true) := hris
            clear hris
            by_cases hlt : j < m.list.length
            · obtain ⟨blk, off, rfl, hblk, hat⟩ := hl (by intro e; rw [e] at hlt; simp at hlt)
              have x0 := (hbw.cell (p := ⟨blk, off + j, none⟩) hblk).trans (hat j hlt)
              have hgd : m.list.getD j 0 = m.list[j] := by simp [List.getD_eq_getElem?_getD, List.getElem?_eq_getElem hlt]
              have HNo : Hid (stepR m.list j = false → G = false) := by intro h; rw [HR3.out]; exact risesR_no h _ hlt
              have HYes : Hid (stepR m.list j = true → risesR m.list (j + 1) = true) := by intro h; simp only [risesR]; rw [HS.out, h]; rfl
              have HST : Hid (stepR m.list j = (isSerialB m.list[j] && (decide (j = 0) || decide (m.list.getD (j - 1) 0 < m.list[j])))) := by show _ = _; unfold stepR; rw [hgd]
              clear hgd
              by_cases hj0 : j = 0
              · subst hj0
                have x0 := x0
                rw [Nat.add_zero] at x0
                clear hat hl hk18
                generalize m.list[0] = x at *
                have n0 : decide ((0 : Int) < ((0 : Nat) : Int)) = false := rfl
                by_cases x1 : x < 1
                · have HG : Hid (G = false) := HNo.out (by rw [HST.out]; simp [isSerialB]; omega)
                  have t1 : decide ((x : Int) < 1) = true := decide_eq_true (by omega)
                  clear HNo HYes HST HR3 HS x1
                  go_wp2
                  go_quiet (fail)
                  go_wp2
                  go_ret
                  exact ⟨congrArg (fun x => Ending.returned (.bool x)) HG.out.symm, hbw.trans ((bel_drewR _ _).mono hbw.size)⟩
                have t1 : decide ((x : Int) < 1) = false := decide_eq_false (by omega)
                by_cases x2 : 72057594037927935 < x
                · have HG : Hid (G = false) := HNo.out (by rw [HST.out]; simp [isSerialB]; omega)
                  have t2 : decide ((72057594037927935 : Int) < (x : Int)) = true := decide_eq_true (by omega)
                  clear HNo HYes HST HR3 HS x1 x2
                  go_wp2
                  go_quiet (fail)
                  go_wp2
                  go_ret
                  exact ⟨congrArg (fun x => Ending.returned (.bool x)) HG.out.symm, hbw.trans ((bel_drewR _ _).mono hbw.size)⟩
                have HC : Hid (stepR m.list 0 = true) := by show _ = _; rw [HST.out]; simp [isSerialB]; omega
                have t2 : decide ((72057594037927935 : Int) < (x : Int)) = false := decide_eq_false (by omega)
                clear HNo HST HR3 HS x1 x2
                go_wp2
                go_quiet (fail)
                go_wp2
                go_roundw
                case rel => exact ⟨0 + 1, by omega, by go_num, HYes.out HC.out, hbs.trans ((bel_drewR _ _).mono (by omega))⟩
                case measure => simp [intOf]; omega
              · obtain ⟨i1, rfl⟩ : ∃ i1 : Nat, j = i1 + 1 := ⟨j - 1, by omega⟩
                have hj1 : i1 < m.list.length := by omega
                have y0 := (hbw.cell (p := ⟨blk, off + i1, none⟩) hblk).trans (hat i1 hj1)
                have hgd : m.list.getD (i1 + 1 - 1) 0 = m.list[i1] := by simp [List.getD_eq_getElem?_getD, List.getElem?_eq_getElem hj1]
                rw [hgd] at HST
                clear hgd hat hl hk18 hj0
                generalize m.list[i1] = y at *
                generalize m.list[i1 + 1] = x at *
                have n0 : decide ((0 : Int) < ((i1 + 1 : Nat) : Int)) = true := decide_eq_true (by omega)
                have b1 : (0 : Int) ≤ ((i1 + 1 : Nat) : Int) - 1 := by omega
                have b2 : ((i1 + 1 : Nat) : Int) - 1 < (m.list.length : Int) := by omega
                by_cases x1 : x < 1
                · have HG : Hid (G = false) := HNo.out (by rw [HST.out]; simp [isSerialB]; omega)
                  have t1 : decide ((x : Int) < 1) = true := decide_eq_true (by omega)
                  clear HNo HYes HST HR3 HS x1
                  go_wp2
                  go_quiet (fail)
                  go_wp2
                  go_ret
                  exact ⟨congrArg (fun x => Ending.returned (.bool x)) HG.out.symm, hbw.trans ((bel_drewR _ _).mono hbw.size)⟩
                have t1 : decide ((x : Int) < 1) = false := decide_eq_false (by omega)
                by_cases x2 : 72057594037927935 < x
                · have HG : Hid (G = false) := HNo.out (by rw [HST.out]; simp [isSerialB]; omega)
                  have t2 : decide ((72057594037927935 : Int) < (x : Int)) = true := decide_eq_true (by omega)
                  clear HNo HYes HST HR3 HS x1 x2
                  go_wp2
                  go_quiet (fail)
                  go_wp2
                  go_ret
                  exact ⟨congrArg (fun x => Ending.returned (.bool x)) HG.out.symm, hbw.trans ((bel_drewR _ _).mono hbw.size)⟩
                have t2 : decide ((72057594037927935 : Int) < (x : Int)) = false := decide_eq_false (by omega)
                by_cases x3 : x ≤ y
                · have HG : Hid (G = false) := HNo.out (by rw [HST.out]; simp [isSerialB]; omega)
                  have t3 : decide ((x : Int) ≤ (y : Int)) = true := decide_eq_true (by omega)
                  clear HNo HYes HST HR3 HS x1 x2
                  go_wp2
                  go_quiet (fail)
                  go_wp2
                  go_ret
                  exact ⟨congrArg (fun x => Ending.returned (.bool x)) HG.out.symm, hbw.trans ((bel_drewR _ _).mono hbw.size)⟩
                have HC : Hid (stepR m.list (i1 + 1) = true) := by show _ = _; rw [HST.out]; simp [isSerialB]; omega
                have t3 : decide ((x : Int) ≤ (y : Int)) = false := decide_eq_false (by omega)
                clear HNo HST HR3 HS x1 x2
                go_wp2
                go_quiet (fail)
                go_wp2
                go_roundw
                case rel => exact ⟨i1 + 1 + 1, by omega, by go_num, HYes.out HC.out, hbs.trans ((bel_drewR _ _).mono (by omega))⟩
                case measure => simp [intOf]; omega
            · have hjl : j = m.list.length := by omega
              have HG : Hid (G = true) := by show _ = _; rw [HR3.out, ← hjl]; exact HS.out
              clear HR3 HS hjl
              go_wp2
              go_ret
              exact ⟨congrArg (fun x => Ending.returned (.bool x)) HG.out.symm, hbw⟩

end Go.Proofs.Ytcpegfjjdojinaa
