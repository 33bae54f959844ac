/- What package wire reads: the walk of readID. -/
import Derived.Test.YtcpegfjjdojinaaWSet
import Derived.Test.YtcpegfjjdojinaaWFitC
namespace Go.Proofs.Ytcpegfjjdojinaa
open Go.RowKit

def rID (L : List UInt8) (p e : Nat) : (Int × Nat) × Nat × Nat :=
  ((((rByte L p e 64).1 : Int), (rNum L (rByte L p e 64).2.1 (rByte L p e 64).2.2 72057594037927935).1), (rNum L (rByte L p e 64).2.1 (rByte L p e 64).2.2 72057594037927935).2)

theorem id_size : (Try.prog.info? 24).map (·.size) = some 2 := by kernel_rfl

theorem res_id1 {fn : Func} {p : Tmp} (h : fn.results = #[.cell p 24]) (tmps : Array Value) {w : World} {b : Nat} {x : Int × Nat} (hp : tmps.getD p undef = .pointer (some ⟨b, 0, none⟩)) (h0 : w.cell? ⟨b, 0, none⟩ = some (.int .i64 x.1)) (h1 : w.cell? ⟨b, 1, none⟩ = some (.int .u64 (x.2 : Int))) :
    (results fn tmps).run Try.prog w = .ok (idv x) w := by
  have hp' : tmps[p]?.getD undef = .pointer (some ⟨b, 0, none⟩) := by simpa using hp
  have hr : w.rangeAt b 0 [.int .i64 x.1, .int .u64 (x.2 : Int)] := by
    intro j v hv
    match j, hv with
    | 0, hv => simp at hv; subst hv; exact h0
    | 1, hv => simp at hv; subst hv; exact h1
    | j + 2, hv => simp at hv
  simp [results, h, hp', asAddr, run_loadVar_mid w b 0 24 _ _ hr Try.underlying24 rfl id_size]

set_option maxRecDepth 20000 in
set_option maxHeartbeats 2000000 in
theorem readID_any (w : World) (rb g : Nat) (L : List UInt8) (p e : Nat) (h : RD w rb g L p e) :
    Calls Try.prog 77 #[.pointer (some ⟨rb, 0, none⟩)] w fun r w' => r = .returned (idv (rID L p e).1) ∧ RTo w w' rb g L (rID L p e).2.1 (rID L p e).2.2 := by
  have hsz := h.size
  have hgl : g < w.heap.size := (Array.getElem?_eq_some_iff.1 h.row).1
  obtain ⟨x, hx⟩ := rb_u8 L p e 64
  have hxl := x.toNat_lt
  have HID : Hid (rID L p e = ((((rByte L p e 64).1 : Int), (rNum L (rByte L p e 64).2.1 (rByte L p e 64).2.2 72057594037927935).1), (rNum L (rByte L p e 64).2.1 (rByte L p e 64).2.2 72057594037927935).2)) := rfl
  have hb := fun w h => rbyte_any w rb g L p e 64 h
  have hn := fun w h => rnum_any w rb g L (rByte L p e 64).2.1 (rByte L p e 64).2.2 72057594037927935 h
  rw [hx] at hb HID
  generalize (rByte L p e 64).2.1 = p1 at *
  generalize (rByte L p e 64).2.2 = e1 at *
  generalize hN : rNum L p1 e1 72057594037927935 = N at *
  go_enter Try.func77, Try.ntmps77
  go_wp2_with (first
    | (go_at_call 55; refine (hb _ (h.below ((Below.refl _ _).alloc (Nat.le_refl _) _))).mono ?_; rintro r w1 ⟨rfl, hto1⟩)
    | (go_at_call 81; refine (hn _ hto1.rd).mono ?_; rintro r w2 ⟨rfl, hto2⟩; have hbx := (hto2.kept.block w.heap.size (by have := hto1.kept.size; simp at this; omega) (by omega)).trans ((hto1.kept.block w.heap.size (by simp) (by omega)).trans (heap_alloc_new w _)); have c0 := cell_of_row w2 w.heap.size 0 _ _ _ hbx; have c1 := cell_of_row w2 w.heap.size 1 _ _ _ hbx; have z0 := frozen_of_row w2 w.heap.size 0 _ _ hbx; have z1 := frozen_of_row w2 w.heap.size 1 _ _ hbx))
  rw [HID.out]
  have s1 := hto1.kept.size
  have k0 : ((w2.setCell ⟨w.heap.size, 0, none⟩ (.int .i64 (x.toNat : Int))).setCell ⟨w.heap.size, 1, none⟩ (.int .u64 (N.1 : Int))).cell? ⟨w.heap.size, 0, none⟩ = some (.int .i64 (x.toNat : Int)) := by
    rw [World.cell?_setCell_other _ _ _ _ (by simp)]
    exact World.cell?_setCell_same _ _ _ c0
  have k1 : ((w2.setCell ⟨w.heap.size, 0, none⟩ (.int .i64 (x.toNat : Int))).setCell ⟨w.heap.size, 1, none⟩ (.int .u64 (N.1 : Int))).cell? ⟨w.heap.size, 1, none⟩ = some (.int .u64 (N.1 : Int)) :=
    World.cell?_setCell_same _ _ _ (by rw [World.cell?_setCell_other _ _ _ _ (by simp)]; exact c1)
  have hk := (Kept.setCell w2 ⟨w.heap.size, 0, none⟩ (.int .i64 (x.toNat : Int))).trans (Kept.setCell _ ⟨w.heap.size, 1, none⟩ (.int .u64 (N.1 : Int))) (fun _ _ h => h)
  refine bodyPost_ret (res_id1 rfl _ (x := ((x.toNat : Int), N.1)) rfl k0 k1) rfl ⟨rfl, hto2.rd.keep hk (by simp; omega) (by simp; omega), ?_⟩
  exact ((Kept.alloc w _ (fun k => k = rb)).trans (hto1.kept.trans hto2.kept (fun _ _ h => h)) (fun _ _ h => h)).trans hk (fun i hi e => by simp at e; omega)

end Go.Proofs.Ytcpegfjjdojinaa
