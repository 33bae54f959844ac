/- What is read is of its types, and its lists are short. -/
import Derived.Test.YtiepbjgcghedeabWReadW
namespace Go.Proofs.Ytiepbjgcghedeab
open Go.RowKit

theorem RowI.ids {w : World} {ao : Option Addr} {c : Nat} {xs : List (Int × Nat)} {B : Nat} (h : RowI w ao c xs B) : IDs w ao xs := by
  intro hne
  rcases h with ⟨_, _, h⟩ | ⟨k, rfl, _, _, hg⟩
  · exact absurd h hne
  · have hc : ∀ i j, i < xs.length → j < 2 → ∀ (hi : i < xs.length), w.cell? ⟨k, 0 + i * 2 + j, none⟩ = (idCells xs[i])[j]? := by
      intro i j hi hj hi'
      rw [cell_of_row w k _ _ _ _ hg, ← flat2 idCells (fun _ => rfl) xs i j hi hj, Nat.zero_add]
      simp
    refine ⟨k, 0, rfl, (Array.getElem?_eq_some_iff.1 hg).1, fun i hi => ⟨?_, ?_⟩⟩
    · have := hc i 0 hi (by omega) hi
      simpa [idCells] using this
    · have := hc i 1 hi (by omega) hi
      simpa [idCells] using this
theorem RowU.us {w : World} {ao : Option Addr} {c : Nat} {xs : List Nat} {B : Nat} (h : RowU w ao c xs B) : Us w ao xs := by
  intro hne
  rcases h with ⟨_, _, h⟩ | ⟨k, rfl, _, _, hg⟩
  · exact absurd h hne
  · refine ⟨k, 0, rfl, (Array.getElem?_eq_some_iff.1 hg).1, fun i hi => ?_⟩
    rw [cell_of_row w k _ _ _ _ hg, Nat.zero_add]
    simp [nv64, hi]

/-- All is of its types, the lists are short. -/
structure Msg.Sm (m : Msg) : Prop where
  ok : m.Ok
  refs : m.refs.length ≤ 2
  list : m.list.length ≤ 64

theorem i64_nat {n : Nat} (h : n ≤ 9223372036854775807) : I64 (n : Int) := by unfold I64; omega
theorem zero_sm : zeroM.Sm := ⟨by constructor <;> simp [zeroM, I64, U64], by simp [zeroM], by simp [zeroM]⟩

theorem setF_sm {m : Msg} (h : m.Sm) (f n : Nat) (hu : U64 n) (hn : f = 4 ∨ f = 8 ∨ f = 16 ∨ f = 128 ∨ f = 512 ∨ f = 1024 → n ≤ 9223372036854775807) : (m.setF f n).Sm := by
  have o := h.ok
  unfold Msg.setF
  by_cases h1 : f = 1
  · rw [if_pos h1]; exact ⟨{ o with call := hu }, h.refs, h.list⟩
  rw [if_neg h1]
  by_cases h2 : f = 2
  · rw [if_pos h2]; exact ⟨{ o with floor := hu }, h.refs, h.list⟩
  rw [if_neg h2]
  by_cases h3 : f = 4
  · rw [if_pos h3]; exact ⟨{ o with item := i64_nat (hn (by omega)) }, h.refs, h.list⟩
  rw [if_neg h3]
  by_cases h4 : f = 8
  · rw [if_pos h4]; exact ⟨{ o with op := i64_nat (hn (by omega)) }, h.refs, h.list⟩
  rw [if_neg h4]
  by_cases h5 : f = 16
  · rw [if_pos h5]; exact ⟨{ o with fld := i64_nat (hn (by omega)) }, h.refs, h.list⟩
  rw [if_neg h5]
  by_cases h6 : f = 64
  · rw [if_pos h6]; exact ⟨{ o with seq := hu }, h.refs, h.list⟩
  rw [if_neg h6]
  by_cases h7 : f = 128
  · rw [if_pos h7]; exact ⟨{ o with vou := i64_nat (hn (by omega)) }, h.refs, h.list⟩
  rw [if_neg h7]
  by_cases h8 : f = 256
  · rw [if_pos h8]; exact ⟨{ o with at_ := hu }, h.refs, h.list⟩
  rw [if_neg h8]
  by_cases h9 : f = 512
  · rw [if_pos h9]; exact ⟨{ o with dist := i64_nat (hn (by omega)) }, h.refs, h.list⟩
  rw [if_neg h9]
  by_cases h10 : f = 1024
  · rw [if_pos h10]; exact ⟨{ o with code := i64_nat (hn (by omega)) }, h.refs, h.list⟩
  rw [if_neg h10]
  by_cases h11 : f = 2048
  · rw [if_pos h11]; exact ⟨{ o with val := hu }, h.refs, h.list⟩
  rw [if_neg h11]
  by_cases h12 : f = 8192
  · rw [if_pos h12]; exact ⟨{ o with stamp := hu }, h.refs, h.list⟩
  rw [if_neg h12]
  exact h

theorem topF_lt (k : Int) (f : Nat) : topF k f < 18446744073709551616 := by
  unfold topF
  repeat' split
  all_goals omega

theorem rID_ok (L : List UInt8) (p e : Nat) : I64 (rID L p e).1.1 ∧ U64 (rID L p e).1.2 := by
  have h1 := rByte_le L p e 64
  have h2 := rNum_le L (rByte L p e 64).2.1 (rByte L p e 64).2.2 72057594037927935
  exact ⟨i64_nat (by omega), by unfold U64; show (rNum L (rByte L p e 64).2.1 (rByte L p e 64).2.2 72057594037927935).1 < _; omega⟩
theorem rIn_ok (L : List UInt8) (n p e : Nat) : ∀ x ∈ (rIn L n p e).1, I64 x.1 ∧ U64 x.2 := by
  induction n with
  | zero => intro x hx; simp [rIn] at hx
  | succ n ih =>
    intro x hx
    simp only [rIn, List.mem_append, List.mem_singleton] at hx
    rcases hx with hx | rfl
    · exact ih x hx
    · exact rID_ok _ _ _
theorem rLs_ok (L : List UInt8) (n p e : Nat) : ∀ x ∈ (rLs L n p e).1, U64 x := by
  induction n with
  | zero => intro x hx; simp [rLs] at hx
  | succ n ih =>
    intro x hx
    simp only [rLs, List.mem_append, List.mem_singleton] at hx
    rcases hx with hx | rfl
    · exact ih x hx
    · have := rNum_le L (rLs L n p e).2.1 (rLs L n p e).2.2 72057594037927935
      unfold U64; omega

theorem rF_sm (L : List UInt8) {m : Msg} (f p e : Nat) (hf : Fld f) (h : m.Sm) : (rF L m f p e).1.Sm := by
  have o := h.ok
  unfold rF
  by_cases h1 : f = 32
  · rw [if_pos h1]
    have := rID_ok L p e
    exact ⟨{ o with tn := this.1, ts := this.2 }, h.refs, h.list⟩
  rw [if_neg h1]
  by_cases h2 : f = 4096
  · rw [if_pos h2]
    refine ⟨{ o with refs := rIn_ok _ _ _ _ }, ?_, h.list⟩
    show (rIn L (rNum L p e 2).1 (rNum L p e 2).2.1 (rNum L p e 2).2.2).1.length ≤ 2
    rw [rIn_len]; exact rNum_le L p e 2
  rw [if_neg h2]
  by_cases h3 : f = 16384
  · rw [if_pos h3]
    refine ⟨{ o with list := rLs_ok _ _ _ _ }, h.refs, ?_⟩
    show (rLs L (rNum L p e 64).1 (rNum L p e 64).2.1 (rNum L p e 64).2.2).1.length ≤ 64
    rw [rLs_len]; exact rNum_le L p e 64
  rw [if_neg h3]
  by_cases h4 : inByteB f = true
  · rw [if_pos h4]
    obtain ⟨x, hx⟩ := rb_u8 L p e (topF m.kind f)
    have := x.toNat_lt
    exact setF_sm h _ _ (by unfold U64; omega) (fun _ => by omega)
  · rw [if_neg h4]
    have h5 := rNum_le L p e (topF m.kind f)
    have h6 := topF_lt m.kind f
    refine setF_sm h _ _ (by unfold U64; omega) (fun hh => ?_)
    have h7 : f = 4 := by
      rcases hh with rfl | rfl | rfl | rfl | rfl | rfl
      · rfl
      all_goals exact absurd rfl h4
    have e4 : topF m.kind f = 4095 := by subst h7; rfl
    omega

theorem rFs_sm (L : List UInt8) (j : Nat) (x : Msg × Nat × Nat) (h : j ≤ 15) (hx : x.1.Sm) : (rFs L j x).1.Sm := by
  induction j with
  | zero => exact hx
  | succ j ih =>
    rw [rFs_step L j x (by omega)]
    unfold rStep
    split
    · exact ih (by omega)
    · exact rF_sm _ _ _ _ (fld_pow (by omega)).1 (ih (by omega))

theorem rHead_sm (L : List UInt8) (p e : Nat) : (rHead L p e).1.Sm := by
  have h1 := rByte_le L p e 11
  have h2 := rByte_le L (rByte L p e 11).2.1 (rByte L p e 11).2.2 64
  have h3 := rByte_le L (rByte L (rByte L p e 11).2.1 (rByte L p e 11).2.2 64).2.1 (rByte L (rByte L p e 11).2.1 (rByte L p e 11).2.2 64).2.2 64
  exact ⟨{ zero_sm.ok with kind := i64_nat (by omega), frm := i64_nat (by omega), to := i64_nat (by omega) }, zero_sm.refs, zero_sm.list⟩

theorem rAll_sm (L : List UInt8) (p e : Nat) : (rAll L p e).1.Sm := by
  unfold rAll
  split
  · exact zero_sm
  · exact rFs_sm L 15 _ (Nat.le_refl _) (rHead_sm L p e)

end Go.Proofs.Ytiepbjgcghedeab
