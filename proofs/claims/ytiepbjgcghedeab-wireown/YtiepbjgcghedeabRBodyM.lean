/- The plain body: what it is of each Kind, and how it begins. -/
import Derived.Test.YtiepbjgcghedeabRLaid3
import Derived.Test.YtiepbjgcghedeabWEnc
import Derived.Test.YtiepbjgcghedeabWFitE
namespace Go.Proofs.Ytiepbjgcghedeab
open Go.RowKit

/-- What the plain body lays, whatever its order is: as bodyB. -/
def partsB (m : Msg) : List UInt8 := bodyB m
theorem wrap_u64x (z : Int) : (z % 18446744073709551616 : Int) = ((u64 z : Nat) : Int) := by
  have h := Int.emod_nonneg z (show (18446744073709551616 : Int) ≠ 0 by decide)
  simp only [u64, Int.toNat_of_nonneg h]
theorem u8_u64 (z : Int) : u8 ((u64 z : Nat) : Int) = u8 z := by
  have h := Int.emod_nonneg z (show (18446744073709551616 : Int) ≠ 0 by decide)
  unfold u8 u64
  congr 1
  omega

theorem fld_parts (m : Msg) (hs : Nat) (hk : hasF m.kind = hs) : bodyB m = headB m ++ ((if hs &&& 1 = 0 then [] else layF m 1) ++ ((if hs &&& 2 = 0 then [] else layF m 2) ++ ((if hs &&& 4 = 0 then [] else layF m 4) ++ ((if hs &&& 8 = 0 then [] else layF m 8) ++ ((if hs &&& 16 = 0 then [] else layF m 16) ++ ((if hs &&& 32 = 0 then [] else layF m 32) ++ ((if hs &&& 64 = 0 then [] else layF m 64) ++ ((if hs &&& 128 = 0 then [] else layF m 128) ++ ((if hs &&& 256 = 0 then [] else layF m 256) ++ ((if hs &&& 512 = 0 then [] else layF m 512) ++ ((if hs &&& 1024 = 0 then [] else layF m 1024) ++ ((if hs &&& 2048 = 0 then [] else layF m 2048) ++ ((if hs &&& 4096 = 0 then [] else layF m 4096) ++ ((if hs &&& 8192 = 0 then [] else layF m 8192) ++ ((if hs &&& 16384 = 0 then [] else layF m 16384) ++ []))))))))))))))) := by
  subst hk
  rfl

theorem lay_one (m : Msg) : layF m 8 = [u8 m.op] ∧ layF m 16 = [u8 m.fld] ∧ layF m 1024 = [u8 m.code] ∧ layF m 128 = [u8 m.vou] ∧ layF m 512 = [u8 m.dist] := by
  refine ⟨?_, ?_, ?_, ?_, ?_⟩
  · exact congrArg (fun x => [x]) (u8_u64 m.op)
  · exact congrArg (fun x => [x]) (u8_u64 m.fld)
  · exact congrArg (fun x => [x]) (u8_u64 m.code)
  · exact congrArg (fun x => [x]) (u8_u64 m.vou)
  · exact congrArg (fun x => [x]) (u8_u64 m.dist)

theorem lay_1 (m : Msg) : layF m 1 = numB m.call := rfl
theorem lay_2 (m : Msg) : layF m 2 = numB m.floor := rfl
theorem lay_4 (m : Msg) : layF m 4 = numB (u64 m.item) := rfl
theorem lay_32 (m : Msg) : layF m 32 = layIDB (m.tn, m.ts) := rfl
theorem lay_64 (m : Msg) : layF m 64 = numB m.seq := rfl
theorem lay_256 (m : Msg) : layF m 256 = numB m.at_ := rfl
theorem lay_2048 (m : Msg) : layF m 2048 = numB m.val := rfl
theorem lay_8192 (m : Msg) : layF m 8192 = numB m.stamp := rfl
theorem lay_8 (m : Msg) : layF m 8 = [u8 m.op] := (lay_one m).1
theorem lay_16 (m : Msg) : layF m 16 = [u8 m.fld] := (lay_one m).2.1
theorem lay_1024 (m : Msg) : layF m 1024 = [u8 m.code] := (lay_one m).2.2.1
theorem lay_128 (m : Msg) : layF m 128 = [u8 m.vou] := (lay_one m).2.2.2.1
theorem lay_512 (m : Msg) : layF m 512 = [u8 m.dist] := (lay_one m).2.2.2.2
theorem parts_3 {m : Msg} (hk : m.kind = 3) : partsB m = headB m ++ numB m.call := by
  unfold partsB
  rw [fld_parts m 1 (by rw [hk]; rfl)]
  simp [lay_1]
theorem parts_4 {m : Msg} (hk : m.kind = 4) : partsB m = headB m ++ layIDB (m.tn, m.ts) ++ numB m.seq ++ [u8 m.vou] ++ numB m.at_ ++ [u8 m.dist] := by
  unfold partsB
  rw [fld_parts m 992 (by rw [hk]; rfl)]
  simp [lay_32, lay_64, lay_128, lay_256, lay_512]
theorem parts_5 {m : Msg} (hk : m.kind = 5) : partsB m = headB m ++ layIDB (m.tn, m.ts) ++ numB m.seq ++ numB m.at_ ++ [u8 m.code] := by
  unfold partsB
  rw [fld_parts m 1376 (by rw [hk]; rfl)]
  simp [lay_32, lay_64, lay_256, lay_1024]
theorem parts_6 {m : Msg} (hk : m.kind = 6) : partsB m = headB m ++ layIDB (m.tn, m.ts) ++ numB m.seq := by
  unfold partsB
  rw [fld_parts m 96 (by rw [hk]; rfl)]
  simp [lay_32, lay_64]
theorem parts_7 {m : Msg} (hk : m.kind = 7) : partsB m = headB m ++ layIDB (m.tn, m.ts) ++ numB m.seq := by
  unfold partsB
  rw [fld_parts m 96 (by rw [hk]; rfl)]
  simp [lay_32, lay_64]
theorem parts_8 {m : Msg} (hk : m.kind = 8) : partsB m = headB m ++ numB m.call ++ numB (u64 m.item) ++ [u8 m.op] ++ layIDB (m.tn, m.ts) := by
  unfold partsB
  rw [fld_parts m 45 (by rw [hk]; rfl)]
  simp [lay_1, lay_4, lay_8, lay_32]
theorem parts_10 {m : Msg} (hk : m.kind = 10) : partsB m = headB m ++ numB m.call ++ numB (u64 m.item) ++ layIDB (m.tn, m.ts) ++ numB m.stamp := by
  unfold partsB
  rw [fld_parts m 8229 (by rw [hk]; rfl)]
  simp [lay_1, lay_4, lay_32, lay_8192]
theorem parts_11 {m : Msg} (hk : m.kind = 11) : partsB m = headB m ++ numB m.call ++ numB (u64 m.item) := by
  unfold partsB
  rw [fld_parts m 5 (by rw [hk]; rfl)]
  simp [lay_1, lay_4]

/-- What stands when the first three bytes are laid. -/
theorem body_start (w : World) (m : Msg) (o : Obj) (w0 : World) (h : w0 = ((w.alloc o).alloc (.cells #[.int .u8 (m.kind % 256), .int .u8 (m.frm % 256), .int .u8 (m.to % 256)] 5)).alloc (.cells #[.int .i64 m.kind, .slice (some ⟨w.heap.size + 1, 0, none⟩) 3 3] 91)) :
    Below w.heap.size w w0 ∧ LD w0 (w.heap.size + 2) m.kind (.slice (some ⟨w.heap.size + 1, 0, none⟩) 3 3) [u8 m.kind, u8 m.frm, u8 m.to] (w.heap.size + 1) ∧ w0.heap[w.heap.size]? = some o := by
  subst h
  have s1 : (w.alloc o).heap.size = w.heap.size + 1 := by simp
  have s2 : ∀ p, ((w.alloc o).alloc p).heap.size = w.heap.size + 2 := fun p => by simp
  have k1 := fun p => heap_alloc_new (w.alloc o) p
  rw [s1] at k1
  have k2 := fun p q => heap_alloc_new ((w.alloc o).alloc p) q
  refine ⟨(((Below.refl _ _).alloc (Nat.le_refl _) _).alloc (by simp) _).alloc (by simp; omega) _, ⟨?_, ?_, by omega, by simp [Value.ownBlock]⟩, ?_⟩
  · have := k2 (.cells #[.int .u8 (m.kind % 256), .int .u8 (m.frm % 256), .int .u8 (m.to % 256)] 5) (.cells #[.int .i64 m.kind, .slice (some ⟨w.heap.size + 1, 0, none⟩) 3 3] 91)
    rwa [s2] at this
  · refine ⟨by simp, Or.inr ⟨w.heap.size + 1, 3, _, rfl, Nat.le_refl _, (Below.heap_alloc _ _ _ (by rw [s2]; omega)).trans (k1 _), by simp, by simp [maxLen], by simp, ?_⟩⟩
    have e1 := wrap_u8 m.kind
    have e2 := wrap_u8 m.frm
    have e3 := wrap_u8 m.to
    simp only [List.length_cons, List.length_nil, bv, List.map_cons, List.map_nil]
    rw [← e1, ← e2, ← e3]
    rfl
  · exact (Below.heap_alloc _ _ _ (by rw [s2]; omega)).trans ((Below.heap_alloc _ _ _ (by omega)).trans (heap_alloc_new w o))

end Go.Proofs.Ytiepbjgcghedeab
