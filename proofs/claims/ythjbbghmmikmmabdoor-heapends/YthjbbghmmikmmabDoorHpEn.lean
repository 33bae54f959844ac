/- HeapEnds, walked. -/
import Derived.Test.YthjbbghmmikmmabDoorHpQ
import Derived.Deep.CutRange
import Derived.Deep.CutBlock
namespace Go.Proofs.YthjbbghmmikmmabDoor
open Go.RowKit

theorem freeS_parts (h : HSt) (s : Nat) : (h.freeS s).last = h.last ∧ (h.freeS s).most = h.most ∧ (h.freeS s).cs.length ≤ h.cs.length := by
  unfold HSt.freeS
  cases getC h.cs s with
  | none => exact ⟨rfl, rfl, Nat.le_refl _⟩
  | some o => exact ⟨rfl, rfl, List.length_filter_le _ _⟩
theorem room0 (n : Nat) (s : Int) (h1 : 1 ≤ s) (h2 : s ≤ 16) : roomB (List.replicate n bk0) s = n * (16 / classN s) := by
  have hk := (classN_is h1 h2).1
  have hz : classN s ≠ 0 := by have := hk.pos; omega
  unfold roomB
  rw [if_neg hz, List.map_replicate, List.sum_replicate_nat]
  unfold roomN
  rw [if_pos (Or.inl (show bk0.c = 0 from rfl))]
  rw [show pc bk0.t = 0 from pc_zero, Nat.sub_zero]
theorem make_room {h : HSt} (hO : AO h.bs) {r v : Int} (hn : 0 ≤ r ∧ r ≤ 7 ∧ 0 ≤ v ∧ v ≤ 7) (h1 : h.cs.length < h.most) (h2 : h.last < 72057594037927935) (hr : 0 < roomB h.bs (1 + r + v)) :
    h.makeR r v = (h.last + 1, 0) ∧ h.makeS r v = { h with last := h.last + 1, bs := allocL h.bs (1 + r + v), cs := h.cs ++ [h.newO r v] } ∧ roomB (allocL h.bs (1 + r + v)) (1 + r + v) + 1 = roomB h.bs (1 + r + v) := by
  obtain ⟨e1, e2⟩ := room_some hO hr
  have hm := makeR_yes (h := h) hn (by omega) (by omega) e1
  refine ⟨hm, ?_, e2⟩
  unfold HSt.makeS
  rw [hm]
  exact if_pos rfl

/-- Behind k of bk objects. -/
structure EndS (h : HSt) (bk k : Nat) : Prop where
  most : h.most = 10
  last : h.last + bk = 72057594037927935 + k
  cnt : h.cs.length = k
  room : roomB h.bs 2 + k = 128

set_option maxRecDepth 20000 in
set_option maxHeartbeats 1000000 in
theorem heapEnds_any (back : Int) (w : World) (hT : TB w) :
    Calls Tryd.prog 3 #[.int .i64 back] w fun e w' => e = .returned (.bool true) ∧ Below w.heap.size w w' := by
  have hP := pickN_lt back 6 (by omega)
  have hPk := fun w => pick_any back 6 (by omega) (by omega) w
  generalize pickN back 6 = bk at *
  have hbk : (bk : Int) ≤ 5 := by omega
  obtain ⟨last, hlast⟩ : ∃ last : Nat, last + bk = 72057594037927935 := ⟨72057594037927935 - bk, by omega⟩
  have hli : (72057594037927935 : Int) - (bk : Int) = (last : Int) := by omega
  have hNew : ∀ w, TB w → Calls Tryd.prog 5 #[.int .i64 1, .int .i64 256, .int .i64 10, .int .u64 (last : Int)] w fun e w' => ∃ hb, e = .returned (.tuple #[.pointer (some ⟨hb, 0, none⟩), .int .i64 0]) ∧ HH w w.heap.size w' hb ⟨1, 10, last, List.replicate 16 bk0, []⟩ (fun _ => False) := fun w hT => HH.new 1 16 10 last (by omega) (by omega) (by omega) (by omega) w hT
  have HS0 : Hid (EndS ⟨1, 10, last, List.replicate 16 bk0, []⟩ bk 0) := by
    have e : EndS ⟨1, 10, last, List.replicate 16 bk0, []⟩ bk 0 := ⟨rfl, by simpa using hlast, rfl, by rw [room0 16 2 (by omega) (by omega)]; rfl⟩
    exact e
  clear hlast
  go_enter Tryd.func3, Tryd.ntmps3
  go_wp2_with (first
    | (go_at_call 4; refine (hPk _).mono ?_; rintro e _ ⟨rfl, rfl⟩)
    | (go_at_call 5; refine (hNew _ hT).mono ?_; rintro e w1 ⟨hb, rfl, x1⟩)
    | (go_at_call 6; refine (hknown_any _ x1.tb).mono ?_; rintro e w2 ⟨rfl, hb2⟩; have x2 := x1.read hb2; clear x1 hb2))
  generalize hG : w.heap.size = g at *
  go_loopw [5] (fun i wr => ∃ (k : Nat) (h : HSt), k ≤ bk ∧ i = .int .i64 (k : Int) ∧ EndS h bk k ∧ HH w g wr hb h (fun _ => False)) (fun i _ => bk - (intOf i).toNat)
  case atStart => exact ⟨0, _, Nat.zero_le _, rfl, HS0.out, x2⟩
  case round =>
    clear x2 HS0 hNew hPk
    obtain ⟨k, h, hk, rfl, hS, x⟩ := hrel
    by_cases hlt : (k : Int) < (bk : Int)
    · have hm := make_room (r := 1) (v := 0) x.ok.ao (by omega) (by have := hS.most; have := hS.cnt; omega) (by have := hS.last; omega) (by show 0 < roomB h.bs 2; have := hS.room; omega)
      have hM := fun w2 (y : HH w g w2 hb h (fun _ => False)) => y.make 1 0
      rw [hm.1] at hM
      have HS : Hid (EndS (h.makeS 1 0) bk (k + 1)) := by
        have e : EndS (h.makeS 1 0) bk (k + 1) := by
          rw [hm.2.1]
          refine ⟨hS.most, by have := hS.last; show h.last + 1 + bk = _; omega, by show (h.cs ++ [h.newO 1 0]).length = _; simp [hS.cnt], ?_⟩
          have h1 : roomB (allocL h.bs 2) 2 + 1 = roomB h.bs 2 := hm.2.2
          have := hS.room
          show roomB (allocL h.bs 2) 2 + (k + 1) = 128
          omega
        exact e
      generalize h.last + 1 = N at *
      clear hm hS
      generalize h.makeS 1 0 = h' at *
      go_wp2_with (go_at_call 7; refine (hM _ x).mono ?_; rintro e w3 ⟨rfl, x3, _⟩)
      go_roundw
      case rel => exact ⟨k + 1, h', by omega, by go_num, HS.out, x3⟩
      case measure => simp [intOf]; omega
    · have hkb : k = bk := by omega
      subst hkb
      have hl : h.last = 72057594037927935 := by have := hS.last; omega
      have hm := makeR_end (h := h) (r := 1) (v := 0) (by omega) (by have := hS.most; have := hS.cnt; omega) (by omega)
      have hM := fun w2 (y : HH w g w2 hb h (fun _ => False)) => y.make 1 0
      rw [hm.1, hm.2] at hM
      have hF := fun w2 (y : HH w g w2 hb h (fun _ => False)) => y.free 72057594037927935 (by omega)
      obtain ⟨f1, f2, f3⟩ := freeS_parts h 72057594037927935
      have hm2 := makeR_end (h := h.freeS 72057594037927935) (r := 1) (v := 0) (by omega) (by have := hS.most; have := hS.cnt; omega) (by omega)
      have hM2 := fun w2 (y : HH w g w2 hb (h.freeS 72057594037927935) (fun _ => False)) => y.make 1 0
      rw [hm2.1, hm2.2] at hM2
      have hL := fun w2 (y : HH w g w2 hb (h.freeS 72057594037927935) (fun _ => False)) => y.last
      rw [f1, hl] at hL
      generalize h.freeS 72057594037927935 = h2 at *
      clear f1 f2 f3 hm hm2 hl hS
      go_wp2_with fail
      refine (hM _ x).mono ?_
      rintro e w3 ⟨rfl, x3, _⟩
      go_wp2_with fail
      refine (hF _ x3).mono ?_
      rintro e w4 ⟨rfl, x4, _⟩
      go_wp2_with fail
      refine (hM2 _ x4).mono ?_
      rintro e w5 ⟨rfl, x5, _⟩
      go_wp2_with (go_at_call 9; refine (hL _ x5).mono ?_; rintro e _ ⟨rfl, rfl⟩)
      go_ret
      exact ⟨rfl, by rw [hG]; exact x5.bel⟩

end Go.Proofs.YthjbbghmmikmmabDoor
