/- The plain body: what it is of the Kinds that bear rows. -/
import Derived.Test.YtiepbjgcghedeabRBodyM
import Derived.Deep.CutRange
namespace Go.Proofs.Ytiepbjgcghedeab
open Go.RowKit

theorem lay_4096 (m : Msg) : layF m 4096 = layIDsB m.refs := rfl
theorem lay_16384 (m : Msg) : layF m 16384 = layListB m.list := rfl
theorem parts_1 {m : Msg} (hk : m.kind = 1) : partsB m = headB m ++ numB m.call ++ numB m.floor ++ [u8 m.op] ++ [u8 m.fld] ++ layIDB (m.tn, m.ts) ++ numB m.val ++ layIDsB m.refs := by
  unfold partsB
  rw [fld_parts m 6203 (by rw [hk]; rfl)]
  simp [lay_1, lay_2, lay_8, lay_16, lay_32, lay_2048, lay_4096]
theorem parts_2 {m : Msg} (hk : m.kind = 2) : partsB m = headB m ++ numB m.call ++ [u8 m.code] ++ numB m.val ++ layIDsB m.refs := by
  unfold partsB
  rw [fld_parts m 7169 (by rw [hk]; rfl)]
  simp [lay_1, lay_1024, lay_2048, lay_4096]
theorem parts_9 {m : Msg} (hk : m.kind = 9) : partsB m = headB m ++ numB m.call ++ numB (u64 m.item) ++ [u8 m.code] ++ numB m.stamp ++ layListB m.list := by
  unfold partsB
  rw [fld_parts m 25605 (by rw [hk]; rfl)]
  simp [lay_1, lay_4, lay_1024, lay_8192, lay_16384]

end Go.Proofs.Ytiepbjgcghedeab
