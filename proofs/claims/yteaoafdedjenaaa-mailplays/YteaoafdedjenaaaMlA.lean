/- A box in memory: its channel's buffer. Put and Take, each one step of the machine of one. -/
import Derived.Test.YteaoafdedjenaaaRows
import Derived.Test.YteaoafdedjenaaaBase
import Derived.Conc.LoneCalls
import Derived.Conc.LoneSelect
import Derived.Conc.LoneSelectN
import Derived.KernelRfl
namespace Go.Proofs.Yteaoafdedjenaaa
open Go.RowKit Go.Conc

/-- A box at block bx: its channel is block c, of capacity cap; q lies in it, in order. -/
structure BX (w : World) (T : TypeId) (bx c cap : Nat) (q : List Value) : Prop where
  box : w.heap[bx]? = some (.cells #[.chan (some c)] T (0, 0))
  ch : ∃ s r, w.heap[c]? = some (.chan cap q.toArray false s r false)

theorem BX.ne {w : World} {T : TypeId} {bx c cap : Nat} {q : List Value} (h : BX w T bx c cap q) : bx ≠ c := by
  obtain ⟨hb, s, r, hc⟩ := h
  intro e
  subst e
  rw [hb] at hc
  cases hc
theorem BX.kept {w w' : World} {S : Nat → Prop} {T : TypeId} {bx c cap : Nat} {q : List Value} (h : BX w T bx c cap q) (hk : Kept w w' S) (h1 : ¬ S bx) (h2 : ¬ S c) : BX w' T bx c cap q := by
  obtain ⟨hb, s, r, hc⟩ := h
  exact ⟨(hk.block bx (Array.getElem?_eq_some_iff.1 hb).1 h1).trans hb, s, r, (hk.block c (Array.getElem?_eq_some_iff.1 hc).1 h2).trans hc⟩
theorem BX.lt {w : World} {T : TypeId} {bx c cap : Nat} {q : List Value} (h : BX w T bx c cap q) : bx < w.heap.size ∧ c < w.heap.size := by
  obtain ⟨hb, s, r, hc⟩ := h
  exact ⟨(Array.getElem?_eq_some_iff.1 hb).1, (Array.getElem?_eq_some_iff.1 hc).1⟩
theorem BX.cell {w : World} {T : TypeId} {bx c cap : Nat} {q : List Value} (h : BX w T bx c cap q) : w.cell? ⟨bx, 0, none⟩ = some (.chan (some c)) := by
  simp [World.cell?, h.box]
theorem BX.turn {w : World} {T : TypeId} {bx c cap : Nat} {q : List Value} (h : BX w T bx c cap q) (q' : List Value) (buf : Array Value) (hq : buf = q'.toArray) (s r : Nat) : BX (w.setChan c cap buf false s r false) T bx c cap q' := by
  subst hq
  refine ⟨?_, s, r, heap_setChan _ _ _ _ _ _ _ _ h.lt.2⟩
  have := h.ne
  simp only [World.setChan]
  rw [Array.getElem?_setIfInBounds_ne (by omega)]
  exact h.box
theorem kept_setChan (w : World) (c cap : Nat) (buf : Array Value) (cl : Bool) (s r : Nat) (tm : Bool) : Kept w (w.setChan c cap buf cl s r tm) (fun k => k = c) :=
  ⟨rfl, rfl, rfl, by simp [World.setChan], fun k _ hn => by simp only [World.setChan]; rw [Array.getElem?_setIfInBounds_ne (by omega)]⟩

/-- A box's pointer. -/
@[reducible] def bp (bx : Nat) : Value := .pointer (some ⟨bx, 0, none⟩)

set_option maxRecDepth 100000 in
theorem putI_any (bx c cap : Nat) (q : List Value) (x : Int) (w : World) (h : BX w 49 bx c cap q) :
    Calls Try.prog 15 #[bp bx, .int .i64 x] w fun e w' => e = .returned (.bool (decide (q.length < cap))) ∧ BX w' 49 bx c cap (if q.length < cap then q ++ [.int .i64 x] else q) ∧ Kept w w' (fun k => k = c) ∧ w'.heap.size = w.heap.size := by
  refine calls_of_loneTo fun cs => ?_
  have e : Frame.enter Try.prog 15 #[bp bx, .int .i64 x] .normal = (base 15).at ⟨#[bp bx, .int .i64 x, undef, undef, undef, undef, undef, undef, undef, undef, undef, undef, undef], []⟩ [.code (Try.f15.body.getD .skip)] := by
    simp [Frame.enter, Frame.at, Try.func15, base, Try.f15]
  rw [e]
  have hcell := h.cell
  refine LoneTo.goes (n := 60) ?_
  simp only [Try.f15, Option.getD_some]
  s_c stepG_seq
  s_reg
  s_op
  s_c stepG_region_end
  s_c stepG_seq
  s_c stepG_seq
  s_reg
  s_op
  s_op
  s_op
  s_op
  s_c stepG_region_end
  s_reg
  s_op
  s_c stepG_region_end
  s_c stepG_seq
  s_reg
  s_stop
  obtain ⟨s, r, hc⟩ := h.ch
  by_cases hr : q.length < cap
  · refine LoneTo.step (step_lone_select_send_room (c := c) (cap := cap) (v := .int .i64 x) (z' := .int .i64 0) (buf := q.toArray) (s := s) (r := r) (tm := false) (stepG_comm (cases := #[scase c (.int .i64 x) (.int .i64 0)]) (blocking := false) (shape := .select) (w' := w) rfl rfl (by decide) (by simp [go_sem, execOp, scase, Act.eval])) hc (by simpa using hr)) ?_
    rw [Frame.finish_at]
    walk_nrm
    refine LoneTo.goes (n := 60) ?_
    s_op
    s_op
    s_c stepG_region_end
    s_c stepG_block
    s_cond true
    s_c stepG_seq
    s_reg
    s_op
    s_c stepG_region_end
    s_c stepG_ret'
    s_stop
    refine LoneTo.done ⟨.returned (.bool true), _, rfl, ⟨by simp [hr], ?_, kept_setChan _ _ _ _ _ _ _ _, size_setChan _ _ _ _ _ _ _ _⟩, rfl, rfl, rfl, rfl, _, Try.func15, by simp [results, Try.f15, Frame.at]⟩
    rw [if_pos hr]
    exact h.turn _ _ (by simp) _ _
  · refine LoneTo.step (step_lone_select_send_full (c := c) (cap := cap) (v := .int .i64 x) (z' := .int .i64 0) (buf := q.toArray) (s := s) (r := r) (tm := false) (stepG_comm (cases := #[scase c (.int .i64 x) (.int .i64 0)]) (blocking := false) (shape := .select) (w' := w) rfl rfl (by decide) (by simp [go_sem, execOp, scase, Act.eval])) hc (by simpa using hr)) ?_
    rw [Frame.finish_at]
    walk_nrm
    refine LoneTo.goes (n := 60) ?_
    s_op
    s_op
    s_c stepG_region_end
    s_c stepG_block
    s_cond false
    s_c stepG_seq
    s_reg
    s_op
    s_c stepG_region_end
    s_c stepG_ret'
    s_stop
    refine LoneTo.done ⟨.returned (.bool false), _, rfl, ⟨by simp [hr], ?_, Kept.refl _ _, rfl⟩, rfl, rfl, rfl, rfl, _, Try.func15, by simp [results, Try.f15, Frame.at]⟩
    rw [if_neg hr]
    exact h

set_option maxRecDepth 100000 in
theorem takeI_none (bx c cap : Nat) (w : World) (h : BX w 49 bx c cap []) :
    Calls Try.prog 16 #[bp bx] w fun e w' => e = .returned (.tuple #[.int .i64 0, .bool false]) ∧ w = w' := by
  refine calls_of_loneTo fun cs => ?_
  have e : Frame.enter Try.prog 16 #[bp bx] .normal = (base 16).at ⟨#[bp bx, undef, undef, undef, undef, undef, undef, undef, undef, undef, undef, undef, undef, undef], []⟩ [.code (Try.f16.body.getD .skip)] := by
    simp [Frame.enter, Frame.at, Try.func16, base, Try.f16]
  rw [e]
  have hcell := h.cell
  refine LoneTo.goes (n := 60) ?_
  simp only [Try.f16, Option.getD_some]
  s_c stepG_seq
  s_reg
  s_op
  s_op
  s_c stepG_region_end
  s_c stepG_seq
  s_reg
  s_op
  s_op
  s_op
  s_op
  s_c stepG_region_end
  s_c stepG_seq
  s_reg
  s_stop
  obtain ⟨s, r, hc⟩ := h.ch
  refine LoneTo.step (step_lone_select_default (c := c) (cap := cap) (z := .int .i64 0) (s := s) (r := r) (tm := false) (stepG_comm (cases := #[rcase c (.int .i64 0)]) (blocking := false) (shape := .select) (w' := w) rfl rfl (by decide) (by simp [go_sem, execOp, rcase, Act.eval])) hc) ?_
  rw [Frame.finish_at]
  walk_nrm
  refine LoneTo.goes (n := 60) ?_
  s_op
  s_op
  s_c stepG_region_end
  s_c stepG_block
  s_cond false
  s_c stepG_seq
  s_reg
  s_op
  s_op
  s_op
  s_c stepG_region_end
  s_c stepG_ret'
  s_stop
  exact LoneTo.done ⟨.returned (.tuple #[.int .i64 0, .bool false]), _, rfl, ⟨rfl, rfl⟩, rfl, rfl, rfl, rfl, _, Try.func16, by simp [results, Try.f16, Frame.at]⟩

set_option maxRecDepth 100000 in
theorem takeI_some (bx c cap : Nat) (x : Int) (q : List Value) (w : World) (h : BX w 49 bx c cap (.int .i64 x :: q)) :
    Calls Try.prog 16 #[bp bx] w fun e w' => e = .returned (.tuple #[.int .i64 x, .bool true]) ∧ BX w' 49 bx c cap q ∧ Kept w w' (fun k => k = c) ∧ w'.heap.size = w.heap.size := by
  refine calls_of_loneTo fun cs => ?_
  have e : Frame.enter Try.prog 16 #[bp bx] .normal = (base 16).at ⟨#[bp bx, undef, undef, undef, undef, undef, undef, undef, undef, undef, undef, undef, undef, undef], []⟩ [.code (Try.f16.body.getD .skip)] := by
    simp [Frame.enter, Frame.at, Try.func16, base, Try.f16]
  rw [e]
  have hcell := h.cell
  refine LoneTo.goes (n := 60) ?_
  simp only [Try.f16, Option.getD_some]
  s_c stepG_seq
  s_reg
  s_op
  s_op
  s_c stepG_region_end
  s_c stepG_seq
  s_reg
  s_op
  s_op
  s_op
  s_op
  s_c stepG_region_end
  s_c stepG_seq
  s_reg
  s_stop
  obtain ⟨s, r, hc⟩ := h.ch
  refine LoneTo.step (step_lone_select_recv_buf (c := c) (cap := cap) (z := .int .i64 0) (buf := (.int .i64 x :: q).toArray) (closed := false) (s := s) (r := r) (tm := false) (stepG_comm (cases := #[rcase c (.int .i64 0)]) (blocking := false) (shape := .select) (w' := w) rfl rfl (by decide) (by simp [go_sem, execOp, rcase, Act.eval])) hc (by simp)) ?_
  rw [Frame.finish_at]
  have hv : (.int .i64 x :: q).toArray.getD 0 undef = .int .i64 x := by simp
  rw [hv]
  walk_nrm
  refine LoneTo.goes (n := 60) ?_
  s_op
  s_op
  s_c stepG_region_end
  s_c stepG_block
  s_cond true
  s_c stepG_seq
  s_reg
  s_op
  s_op
  s_c stepG_region_end
  s_c stepG_seq
  s_reg
  s_op
  s_op
  s_op
  s_c stepG_region_end
  s_c stepG_ret'
  s_stop
  exact LoneTo.done ⟨.returned (.tuple #[.int .i64 x, .bool true]), _, rfl, ⟨rfl, h.turn _ _ (by simp) _ _, kept_setChan _ _ _ _ _ _ _ _, size_setChan _ _ _ _ _ _ _ _⟩, rfl, rfl, rfl, rfl, _, Try.func16, by simp [results, Try.f16, Frame.at]⟩

set_option maxRecDepth 100000 in
theorem putS_any (bx c cap : Nat) (q : List Value) (x : ByteArray) (w : World) (h : BX w 52 bx c cap q) :
    Calls Try.prog 10 #[bp bx, .string x] w fun e w' => e = .returned (.bool (decide (q.length < cap))) ∧ BX w' 52 bx c cap (if q.length < cap then q ++ [.string x] else q) ∧ Kept w w' (fun k => k = c) ∧ w'.heap.size = w.heap.size := by
  refine calls_of_loneTo fun cs => ?_
  have e : Frame.enter Try.prog 10 #[bp bx, .string x] .normal = (base 10).at ⟨#[bp bx, .string x, undef, undef, undef, undef, undef, undef, undef, undef, undef, undef, undef], []⟩ [.code (Try.f10.body.getD .skip)] := by
    simp [Frame.enter, Frame.at, Try.func10, base, Try.f10]
  rw [e]
  have hcell := h.cell
  refine LoneTo.goes (n := 60) ?_
  simp only [Try.f10, Option.getD_some]
  s_c stepG_seq
  s_reg
  s_op
  s_c stepG_region_end
  s_c stepG_seq
  s_c stepG_seq
  s_reg
  s_op
  s_op
  s_op
  s_op
  s_c stepG_region_end
  s_reg
  s_op
  s_c stepG_region_end
  s_c stepG_seq
  s_reg
  s_stop
  obtain ⟨s, r, hc⟩ := h.ch
  by_cases hr : q.length < cap
  · refine LoneTo.step (step_lone_select_send_room (c := c) (cap := cap) (v := .string x) (z' := .string ⟨#[]⟩) (buf := q.toArray) (s := s) (r := r) (tm := false) (stepG_comm (cases := #[scase c (.string x) (.string ⟨#[]⟩)]) (blocking := false) (shape := .select) (w' := w) rfl rfl (by decide) (by simp [go_sem, execOp, scase, Act.eval])) hc (by simpa using hr)) ?_
    rw [Frame.finish_at]
    walk_nrm
    refine LoneTo.goes (n := 60) ?_
    s_op
    s_op
    s_c stepG_region_end
    s_c stepG_block
    s_cond true
    s_c stepG_seq
    s_reg
    s_op
    s_c stepG_region_end
    s_c stepG_ret'
    s_stop
    refine LoneTo.done ⟨.returned (.bool true), _, rfl, ⟨by simp [hr], ?_, kept_setChan _ _ _ _ _ _ _ _, size_setChan _ _ _ _ _ _ _ _⟩, rfl, rfl, rfl, rfl, _, Try.func10, by simp [results, Try.f10, Frame.at]⟩
    rw [if_pos hr]
    exact h.turn _ _ (by simp) _ _
  · refine LoneTo.step (step_lone_select_send_full (c := c) (cap := cap) (v := .string x) (z' := .string ⟨#[]⟩) (buf := q.toArray) (s := s) (r := r) (tm := false) (stepG_comm (cases := #[scase c (.string x) (.string ⟨#[]⟩)]) (blocking := false) (shape := .select) (w' := w) rfl rfl (by decide) (by simp [go_sem, execOp, scase, Act.eval])) hc (by simpa using hr)) ?_
    rw [Frame.finish_at]
    walk_nrm
    refine LoneTo.goes (n := 60) ?_
    s_op
    s_op
    s_c stepG_region_end
    s_c stepG_block
    s_cond false
    s_c stepG_seq
    s_reg
    s_op
    s_c stepG_region_end
    s_c stepG_ret'
    s_stop
    refine LoneTo.done ⟨.returned (.bool false), _, rfl, ⟨by simp [hr], ?_, Kept.refl _ _, rfl⟩, rfl, rfl, rfl, rfl, _, Try.func10, by simp [results, Try.f10, Frame.at]⟩
    rw [if_neg hr]
    exact h

set_option maxRecDepth 100000 in
theorem takeS_none (bx c cap : Nat) (w : World) (h : BX w 52 bx c cap []) :
    Calls Try.prog 12 #[bp bx] w fun e w' => e = .returned (.tuple #[.string ⟨#[]⟩, .bool false]) ∧ w = w' := by
  refine calls_of_loneTo fun cs => ?_
  have e : Frame.enter Try.prog 12 #[bp bx] .normal = (base 12).at ⟨#[bp bx, undef, undef, undef, undef, undef, undef, undef, undef, undef, undef, undef, undef, undef], []⟩ [.code (Try.f12.body.getD .skip)] := by
    simp [Frame.enter, Frame.at, Try.func12, base, Try.f12]
  rw [e]
  have hcell := h.cell
  refine LoneTo.goes (n := 60) ?_
  simp only [Try.f12, Option.getD_some]
  s_c stepG_seq
  s_reg
  s_op
  s_op
  s_c stepG_region_end
  s_c stepG_seq
  s_reg
  s_op
  s_op
  s_op
  s_op
  s_c stepG_region_end
  s_c stepG_seq
  s_reg
  s_stop
  obtain ⟨s, r, hc⟩ := h.ch
  refine LoneTo.step (step_lone_select_default (c := c) (cap := cap) (z := .string ⟨#[]⟩) (s := s) (r := r) (tm := false) (stepG_comm (cases := #[rcase c (.string ⟨#[]⟩)]) (blocking := false) (shape := .select) (w' := w) rfl rfl (by decide) (by simp [go_sem, execOp, rcase, Act.eval])) hc) ?_
  rw [Frame.finish_at]
  walk_nrm
  refine LoneTo.goes (n := 60) ?_
  s_op
  s_op
  s_c stepG_region_end
  s_c stepG_block
  s_cond false
  s_c stepG_seq
  s_reg
  s_op
  s_op
  s_op
  s_c stepG_region_end
  s_c stepG_ret'
  s_stop
  exact LoneTo.done ⟨.returned (.tuple #[.string ⟨#[]⟩, .bool false]), _, rfl, ⟨rfl, rfl⟩, rfl, rfl, rfl, rfl, _, Try.func12, by simp [results, Try.f12, Frame.at]⟩

set_option maxRecDepth 100000 in
theorem takeS_some (bx c cap : Nat) (x : ByteArray) (q : List Value) (w : World) (h : BX w 52 bx c cap (.string x :: q)) :
    Calls Try.prog 12 #[bp bx] w fun e w' => e = .returned (.tuple #[.string x, .bool true]) ∧ BX w' 52 bx c cap q ∧ Kept w w' (fun k => k = c) ∧ w'.heap.size = w.heap.size := by
  refine calls_of_loneTo fun cs => ?_
  have e : Frame.enter Try.prog 12 #[bp bx] .normal = (base 12).at ⟨#[bp bx, undef, undef, undef, undef, undef, undef, undef, undef, undef, undef, undef, undef, undef], []⟩ [.code (Try.f12.body.getD .skip)] := by
    simp [Frame.enter, Frame.at, Try.func12, base, Try.f12]
  rw [e]
  have hcell := h.cell
  refine LoneTo.goes (n := 60) ?_
  simp only [Try.f12, Option.getD_some]
  s_c stepG_seq
  s_reg
  s_op
  s_op
  s_c stepG_region_end
  s_c stepG_seq
  s_reg
  s_op
  s_op
  s_op
  s_op
  s_c stepG_region_end
  s_c stepG_seq
  s_reg
  s_stop
  obtain ⟨s, r, hc⟩ := h.ch
  refine LoneTo.step (step_lone_select_recv_buf (c := c) (cap := cap) (z := .string ⟨#[]⟩) (buf := (.string x :: q).toArray) (closed := false) (s := s) (r := r) (tm := false) (stepG_comm (cases := #[rcase c (.string ⟨#[]⟩)]) (blocking := false) (shape := .select) (w' := w) rfl rfl (by decide) (by simp [go_sem, execOp, rcase, Act.eval])) hc (by simp)) ?_
  rw [Frame.finish_at]
  have hv : (.string x :: q).toArray.getD 0 undef = .string x := by simp
  rw [hv]
  walk_nrm
  refine LoneTo.goes (n := 60) ?_
  s_op
  s_op
  s_c stepG_region_end
  s_c stepG_block
  s_cond true
  s_c stepG_seq
  s_reg
  s_op
  s_op
  s_c stepG_region_end
  s_c stepG_seq
  s_reg
  s_op
  s_op
  s_op
  s_c stepG_region_end
  s_c stepG_ret'
  s_stop
  exact LoneTo.done ⟨.returned (.tuple #[.string x, .bool true]), _, rfl, ⟨rfl, h.turn _ _ (by simp) _ _, kept_setChan _ _ _ _ _ _ _ _, size_setChan _ _ _ _ _ _ _ _⟩, rfl, rfl, rfl, rfl, _, Try.func12, by simp [results, Try.f12, Frame.at]⟩

end Go.Proofs.Yteaoafdedjenaaa
