/- What is laid by some calls: plain facts. -/
import Derived.Test.YtdadbdeeoemfcabMath
import Derived.Test.YtdadbdeeoemfcabWalkG
namespace Go.Proofs.Ytdadbdeeoemfcab

/-- One thing that is laid. -/
structure LayD where
  what : Int
  b : UInt8
  n : Nat
  t : List UInt8

def layOne (d : LayD) : List UInt8 := if pickN d.what 3 = 0 then [d.b] else if pickN d.what 3 = 1 then numB d.n else numB d.t.length ++ d.t
def layAll (ds : List LayD) : List UInt8 := (ds.map layOne).flatten

theorem layAll_nil : layAll [] = [] := rfl
theorem layAll_cons (d : LayD) (ds : List LayD) : layAll (d :: ds) = layOne d ++ layAll ds := by simp [layAll]
theorem layAll_append (a b : List LayD) : layAll (a ++ b) = layAll a ++ layAll b := by simp only [layAll, List.map_append, List.flatten_append]
theorem layAll_one (d : LayD) : layAll [d] = layOne d := by simp [layAll]
theorem layAll_take (ds : List LayD) (k : Nat) (hk : k < ds.length) : layAll (ds.take (k + 1)) = layAll (ds.take k) ++ layOne ds[k] := by
  rw [List.take_succ_eq_append_getElem hk, layAll_append, layAll_one]
theorem layAll_le (ds : List LayD) (k : Nat) : (layAll (ds.take k)).length ≤ (layAll ds).length := by
  have e : layAll ds = layAll (ds.take k) ++ layAll (ds.drop k) := by rw [← layAll_append, List.take_append_drop]
  rw [e, List.length_append]; omega
theorem layAll_step_le (ds : List LayD) (k : Nat) (hk : k < ds.length) : (layAll (ds.take k)).length + (layOne ds[k]).length ≤ (layAll ds).length := by
  have := layAll_le ds (k + 1)
  rw [layAll_take ds k hk, List.length_append] at this
  exact this
theorem layOne_byte {d : LayD} (h : pickN d.what 3 = 0) : layOne d = [d.b] := by rw [layOne, if_pos h]
theorem layOne_num {d : LayD} (h : pickN d.what 3 = 1) : layOne d = numB d.n := by rw [layOne, if_neg (by omega), if_pos h]
theorem layOne_text {d : LayD} (h : pickN d.what 3 = 2) : layOne d = numB d.t.length ++ d.t := by rw [layOne, if_neg (by omega), if_neg (by omega)]

end Go.Proofs.Ytdadbdeeoemfcab
