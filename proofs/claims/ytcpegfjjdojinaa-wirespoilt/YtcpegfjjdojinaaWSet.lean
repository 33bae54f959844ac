/- A field of a message is set: the walk of setNumber. -/
import Derived.Test.YtcpegfjjdojinaaWStore
import Derived.Test.YtcpegfjjdojinaaWalkJ
namespace Go.Proofs.Ytcpegfjjdojinaa
open Go.RowKit

/-- One cell of a message in memory is another one. -/
theorem MAt.set {w : World} {b : Nat} {m m' : Msg} {ro lo ro' lo' : Option Addr} {rc lc rc' lc' : Nat} (h : MAt w b m ro lo rc lc) (j : Nat) (v : Value) (hj : j < 19) (hm : m'.cl ro' lo' rc' lc' = (m.cl ro lo rc lc).set j v) : MAt (w.setCell ⟨b, j, none⟩ v) b m' ro' lo' rc' lc' := by
  obtain ⟨u, hu⟩ : ∃ u, w.cell? ⟨b, j, none⟩ = some u := ⟨_, h.cells j _ (List.getElem?_eq_getElem (by simpa using hj))⟩
  refine ⟨by simpa using h.lt, fun i x hx => ?_, fun i hi => ?_⟩
  · rw [hm] at hx
    rw [Nat.zero_add]
    by_cases hij : i = j
    · subst hij
      rw [List.getElem?_set_self (by simpa using hj)] at hx
      rw [World.cell?_setCell_same _ _ _ hu]
      exact hx
    · rw [World.cell?_setCell_other _ _ _ _ (by intro e; exact hij (by have := congrArg Addr.off e; simpa using this.symm))]
      rw [List.getElem?_set_ne (fun e => hij e.symm)] at hx
      exact h.cells i x hx
  · rw [World.frozen?_setCell]
    have hth := h.th i hi
    refine ⟨?_, hth.2⟩
    rw [Nat.zero_add] at hth ⊢
    by_cases hij : i = j
    · subst hij
      rw [World.cell?_setCell_same _ _ _ hu]; rfl
    · rw [World.cell?_setCell_other _ _ _ _ (by intro e; exact hij (by have := congrArg Addr.off e; simpa using this.symm))]; exact hth.1

/-- The message with the field f, one number, set. -/
def Msg.setF (m : Msg) (f n : Nat) : Msg :=
  if f = 1 then { m with call := n } else if f = 2 then { m with floor := n } else if f = 4 then { m with item := (n : Int) } else if f = 8 then { m with op := (n : Int) } else if f = 16 then { m with fld := (n : Int) } else
  if f = 64 then { m with seq := n } else if f = 128 then { m with vou := (n : Int) } else if f = 256 then { m with at_ := n } else if f = 512 then { m with dist := (n : Int) } else if f = 1024 then { m with code := (n : Int) } else if f = 2048 then { m with val := n } else if f = 8192 then { m with stamp := n } else m

/-- The fields of one number. -/
def FldN (f : Nat) : Prop := f = 1 ∨ f = 2 ∨ f = 4 ∨ f = 8 ∨ f = 16 ∨ f = 64 ∨ f = 128 ∨ f = 256 ∨ f = 512 ∨ f = 1024 ∨ f = 2048 ∨ f = 8192

theorem frozen_at {w : World} {b : Nat} {m : Msg} {ro lo : Option Addr} {rc lc : Nat} (h : MAt w b m ro lo rc lc) (j : Nat) (hj : j < 19) : w.frozen? ⟨b, j, none⟩ = false := by
  have := (h.th j hj).2
  rwa [Nat.zero_add] at this

set_option maxRecDepth 20000 in
set_option maxHeartbeats 4000000 in
theorem setNumber_any (m : Msg) (f n : Nat) (hf : FldN f) (hn : f = 4 ∨ f = 8 ∨ f = 16 ∨ f = 128 ∨ f = 512 ∨ f = 1024 → n ≤ 9223372036854775807) (ro lo : Option Addr) (rc lc : Nat) (w : World) (b : Nat) (h : MAt w b m ro lo rc lc) :
    Calls Try.prog 80 #[.pointer (some ⟨b, 0, none⟩), .int .u64 (f : Int), .int .u64 (n : Int)] w fun e w' => e = .returned (.tuple #[]) ∧ MAt w' b (m.setF f n) ro lo rc lc ∧ Kept w w' (fun k => k = b) ∧ w'.heap.size = w.heap.size := by
  rcases hf with rfl | rfl | rfl | rfl | rfl | rfl | rfl | rfl | rfl | rfl | rfl | rfl
  · have c := h.cells 3 _ rfl
    have z := frozen_at h 3 (by omega)
    clear hn
    go_enter Try.func80, Try.ntmps80
    go_wp2
    go_end0
    exact ⟨rfl, h.set 3 _ (by omega) rfl, Kept.setCell _ _ _, by simp⟩
  · have c := h.cells 4 _ rfl
    have z := frozen_at h 4 (by omega)
    clear hn
    go_enter Try.func80, Try.ntmps80
    go_wp2
    go_end0
    exact ⟨rfl, h.set 4 _ (by omega) rfl, Kept.setCell _ _ _, by simp⟩
  · have c := h.cells 7 _ rfl
    have z := frozen_at h 7 (by omega)
    have hn' := hn (by omega)
    clear hn
    go_enter Try.func80, Try.ntmps80
    go_wp2
    go_end0
    exact ⟨rfl, h.set 7 _ (by omega) rfl, Kept.setCell _ _ _, by simp⟩
  · have c := h.cells 5 _ rfl
    have z := frozen_at h 5 (by omega)
    have hn' := hn (by omega)
    clear hn
    go_enter Try.func80, Try.ntmps80
    go_wp2
    go_end0
    exact ⟨rfl, h.set 5 _ (by omega) rfl, Kept.setCell _ _ _, by simp⟩
  · have c := h.cells 6 _ rfl
    have z := frozen_at h 6 (by omega)
    have hn' := hn (by omega)
    clear hn
    go_enter Try.func80, Try.ntmps80
    go_wp2
    go_end0
    exact ⟨rfl, h.set 6 _ (by omega) rfl, Kept.setCell _ _ _, by simp⟩
  · have c := h.cells 13 _ rfl
    have z := frozen_at h 13 (by omega)
    clear hn
    go_enter Try.func80, Try.ntmps80
    go_wp2
    go_end0
    exact ⟨rfl, h.set 13 _ (by omega) rfl, Kept.setCell _ _ _, by simp⟩
  · have c := h.cells 14 _ rfl
    have z := frozen_at h 14 (by omega)
    have hn' := hn (by omega)
    clear hn
    go_enter Try.func80, Try.ntmps80
    go_wp2
    go_end0
    exact ⟨rfl, h.set 14 _ (by omega) rfl, Kept.setCell _ _ _, by simp⟩
  · have c := h.cells 15 _ rfl
    have z := frozen_at h 15 (by omega)
    clear hn
    go_enter Try.func80, Try.ntmps80
    go_wp2
    go_end0
    exact ⟨rfl, h.set 15 _ (by omega) rfl, Kept.setCell _ _ _, by simp⟩
  · have c := h.cells 16 _ rfl
    have z := frozen_at h 16 (by omega)
    have hn' := hn (by omega)
    clear hn
    go_enter Try.func80, Try.ntmps80
    go_wp2
    go_end0
    exact ⟨rfl, h.set 16 _ (by omega) rfl, Kept.setCell _ _ _, by simp⟩
  · have c := h.cells 12 _ rfl
    have z := frozen_at h 12 (by omega)
    have hn' := hn (by omega)
    clear hn
    go_enter Try.func80, Try.ntmps80
    go_wp2
    go_end0
    exact ⟨rfl, h.set 12 _ (by omega) rfl, Kept.setCell _ _ _, by simp⟩
  · have c := h.cells 11 _ rfl
    have z := frozen_at h 11 (by omega)
    clear hn
    go_enter Try.func80, Try.ntmps80
    go_wp2
    go_end0
    exact ⟨rfl, h.set 11 _ (by omega) rfl, Kept.setCell _ _ _, by simp⟩
  · have c := h.cells 17 _ rfl
    have z := frozen_at h 17 (by omega)
    clear hn
    go_enter Try.func80, Try.ntmps80
    go_wp2
    go_end0
    exact ⟨rfl, h.set 17 _ (by omega) rfl, Kept.setCell _ _ _, by simp⟩

theorem rb_u8 (L : List UInt8) (p e m : Nat) : ∃ x : UInt8, (rByte L p e m).1 = x.toNat := by
  unfold rByte
  split
  · exact ⟨0, rfl⟩
  · split
    · exact ⟨0, rfl⟩
    · split
      · exact ⟨0, rfl⟩
      · exact ⟨_, rfl⟩

end Go.Proofs.Ytcpegfjjdojinaa
