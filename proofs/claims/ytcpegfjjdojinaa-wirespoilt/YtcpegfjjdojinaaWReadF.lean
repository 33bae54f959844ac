/- What package wire reads: the walk of read, a field at a time. -/
import Derived.Test.YtcpegfjjdojinaaWReadI
import Derived.Test.YtcpegfjjdojinaaWLay
namespace Go.Proofs.Ytcpegfjjdojinaa
open Go.RowKit

/-- A list of IDs in a row of its own, from block B on; or none. -/
def RowI (w : World) (ao : Option Addr) (c : Nat) (xs : List (Int × Nat)) (B : Nat) : Prop :=
  (ao = none ∧ c = 0 ∧ xs = []) ∨ ∃ k, ao = some ⟨k, 0, none⟩ ∧ c = xs.length ∧ B ≤ k ∧ w.heap[k]? = some (.cells (xs.flatMap idCells).toArray 24 (0, 0))
def RowU (w : World) (ao : Option Addr) (c : Nat) (xs : List Nat) (B : Nat) : Prop :=
  (ao = none ∧ c = 0 ∧ xs = []) ∨ ∃ k, ao = some ⟨k, 0, none⟩ ∧ c = xs.length ∧ B ≤ k ∧ w.heap[k]? = some (.cells (xs.map nv64).toArray 22 (0, 0))

theorem RowI.keep {w w' : World} {ao : Option Addr} {c : Nat} {xs : List (Int × Nat)} {B : Nat} {S : Nat → Prop} (h : RowI w ao c xs B) (hk : Kept w w' S) (hs : ∀ k, B ≤ k → ¬ S k) : RowI w' ao c xs B := by
  rcases h with h | ⟨k, h1, h2, h3, h4⟩
  · exact Or.inl h
  · exact Or.inr ⟨k, h1, h2, h3, (hk.block k (Array.getElem?_eq_some_iff.1 h4).1 (hs k h3)).trans h4⟩
theorem RowU.keep {w w' : World} {ao : Option Addr} {c : Nat} {xs : List Nat} {B : Nat} {S : Nat → Prop} (h : RowU w ao c xs B) (hk : Kept w w' S) (hs : ∀ k, B ≤ k → ¬ S k) : RowU w' ao c xs B := by
  rcases h with h | ⟨k, h1, h2, h3, h4⟩
  · exact Or.inl h
  · exact Or.inr ⟨k, h1, h2, h3, (hk.block k (Array.getElem?_eq_some_iff.1 h4).1 (hs k h3)).trans h4⟩

/-- The message that is being read: in its box mb, its lists in rows behind it. -/
structure MR (w : World) (mb : Nat) (m : Msg) (ro lo : Option Addr) (rc lc : Nat) : Prop where
  at_ : MAt w mb m ro lo rc lc
  refs : RowI w ro rc m.refs (mb + 1)
  list : RowU w lo lc m.list (mb + 1)

theorem MAt.keep {w w' : World} {b : Nat} {m : Msg} {ro lo : Option Addr} {rc lc : Nat} {S : Nat → Prop} (h : MAt w b m ro lo rc lc) (hk : Kept w w' S) (hs : ¬ S b) : MAt w' b m ro lo rc lc := by
  have hb := hk.block b h.lt hs
  refine ⟨Nat.lt_of_lt_of_le h.lt hk.size, fun j v hv => (World.cell?_of_block (a := ⟨b, 0 + j, none⟩) hb).trans (h.rng j v hv), fun j hj => ?_⟩
  have := h.th j hj
  rw [World.cell?_of_block (a := ⟨b, 0 + j, none⟩) hb]
  refine ⟨this.1, ?_⟩
  have e : w'.frozen? ⟨b, 0 + j, none⟩ = w.frozen? ⟨b, 0 + j, none⟩ := by simp only [World.frozen?, hb]
  rw [e]
  exact this.2

theorem MR.keep {w w' : World} {mb : Nat} {m : Msg} {ro lo : Option Addr} {rc lc : Nat} {S : Nat → Prop} (h : MR w mb m ro lo rc lc) (hk : Kept w w' S) (hs : ∀ k, mb ≤ k → ¬ S k) : MR w' mb m ro lo rc lc :=
  ⟨h.at_.keep hk (hs mb (Nat.le_refl _)), h.refs.keep hk (fun k hk' => hs k (by omega)), h.list.keep hk (fun k hk' => hs k (by omega))⟩

/-- A field is read. -/
def rF (L : List UInt8) (m : Msg) (f p e : Nat) : Msg × Nat × Nat :=
  if f = 32 then ({ m with tn := (rID L p e).1.1, ts := (rID L p e).1.2 }, (rID L p e).2)
  else if f = 4096 then ({ m with refs := (rIDs L p e).1 }, (rIDs L p e).2)
  else if f = 16384 then ({ m with list := (rList L p e).1 }, (rList L p e).2)
  else if inByteB f = true then (m.setF f (rByte L p e (topF m.kind f)).1, (rByte L p e (topF m.kind f)).2)
  else (m.setF f (rNum L p e (topF m.kind f)).1, (rNum L p e (topF m.kind f)).2)

theorem setF_all (m : Msg) (f n : Nat) : (m.setF f n).refs = m.refs ∧ (m.setF f n).list = m.list ∧ (m.setF f n).kind = m.kind ∧ (m.setF f n).frm = m.frm ∧ (m.setF f n).to = m.to := by
  unfold Msg.setF
  by_cases h1 : f = 1
  · rw [if_pos h1]; exact ⟨rfl, rfl, rfl, rfl, rfl⟩
  rw [if_neg h1]
  by_cases h2 : f = 2
  · rw [if_pos h2]; exact ⟨rfl, rfl, rfl, rfl, rfl⟩
  rw [if_neg h2]
  by_cases h3 : f = 4
  · rw [if_pos h3]; exact ⟨rfl, rfl, rfl, rfl, rfl⟩
  rw [if_neg h3]
  by_cases h4 : f = 8
  · rw [if_pos h4]; exact ⟨rfl, rfl, rfl, rfl, rfl⟩
  rw [if_neg h4]
  by_cases h5 : f = 16
  · rw [if_pos h5]; exact ⟨rfl, rfl, rfl, rfl, rfl⟩
  rw [if_neg h5]
  by_cases h6 : f = 64
  · rw [if_pos h6]; exact ⟨rfl, rfl, rfl, rfl, rfl⟩
  rw [if_neg h6]
  by_cases h7 : f = 128
  · rw [if_pos h7]; exact ⟨rfl, rfl, rfl, rfl, rfl⟩
  rw [if_neg h7]
  by_cases h8 : f = 256
  · rw [if_pos h8]; exact ⟨rfl, rfl, rfl, rfl, rfl⟩
  rw [if_neg h8]
  by_cases h9 : f = 512
  · rw [if_pos h9]; exact ⟨rfl, rfl, rfl, rfl, rfl⟩
  rw [if_neg h9]
  by_cases h10 : f = 1024
  · rw [if_pos h10]; exact ⟨rfl, rfl, rfl, rfl, rfl⟩
  rw [if_neg h10]
  by_cases h11 : f = 2048
  · rw [if_pos h11]; exact ⟨rfl, rfl, rfl, rfl, rfl⟩
  rw [if_neg h11]
  by_cases h12 : f = 8192
  · rw [if_pos h12]; exact ⟨rfl, rfl, rfl, rfl, rfl⟩
  rw [if_neg h12]
  exact ⟨rfl, rfl, rfl, rfl, rfl⟩

/-- What a reading leaves: the reader, the message, all else. -/
structure RM (w w' : World) (rb g mb : Nat) (L : List UInt8) (x : Msg × Nat × Nat) : Prop where
  rd : RD w' rb g L x.2.1 x.2.2
  mr : ∃ ro lo rc lc, MR w' mb x.1 ro lo rc lc
  kept : Kept w w' (fun k => k = rb ∨ k = mb)

theorem kept_or {w w' : World} {a b : Nat} (h : Kept w w' (fun k => k = a)) : Kept w w' (fun k => k = a ∨ k = b) := h.mono (fun _ _ e => Or.inl e)
theorem kept_or2 {w w' : World} {a b : Nat} (h : Kept w w' (fun k => k = b)) : Kept w w' (fun k => k = a ∨ k = b) := h.mono (fun _ _ e => Or.inr e)

/-- One number was read and is set. -/
theorem rm_num {w w1 w2 : World} {rb g mb : Nat} {L : List UInt8} {m : Msg} {p e f n : Nat} {ro lo : Option Addr} {rc lc : Nat} (hlt : rb < mb) (hgl : g < rb) (hm : MR w mb m ro lo rc lc) (hto : RTo w w1 rb g L p e)
    (h2 : MAt w2 mb (m.setF f n) ro lo rc lc) (hk2 : Kept w1 w2 (fun k => k = mb)) : RM w w2 rb g mb L (m.setF f n, p, e) := by
  have hm1 := hm.keep hto.kept (fun k hk e => by omega)
  refine ⟨hto.rd.keep hk2 (by omega) (by omega), ⟨ro, lo, rc, lc, h2, ?_, ?_⟩, (kept_or hto.kept).trans (kept_or2 hk2) (fun _ _ x => x)⟩
  · rw [(setF_all m f n).1]; exact hm1.refs.keep hk2 (fun k hk e => by omega)
  · rw [(setF_all m f n).2.1]; exact hm1.list.keep hk2 (fun k hk e => by omega)

set_option maxRecDepth 20000 in
set_option maxHeartbeats 2000000 in
theorem read_byte (w : World) (rb g mb : Nat) (L : List UInt8) (p e : Nat) (m : Msg) (ro lo : Option Addr) (rc lc : Nat) (f : Nat) (hf : f = 8 ∨ f = 16 ∨ f = 1024 ∨ f = 128 ∨ f = 512) (hlt : rb < mb) (h : RD w rb g L p e) (hm : MR w mb m ro lo rc lc) :
    Calls Try.prog 56 #[.pointer (some ⟨rb, 0, none⟩), .pointer (some ⟨mb, 0, none⟩), .int .u64 (f : Int)] w fun r w' => r = .returned (.tuple #[]) ∧ RM w w' rb g mb L (rF L m f p e) := by
  have c0 := hm.at_.cells 0 _ rfl
  have hgl := h.lt
  have hfld : Fld f := by unfold Fld; omega
  have hfn : FldN f := by unfold FldN; omega
  have htop : topF m.kind f ≤ 255 := by
    unfold topF
    repeat' split
    all_goals omega
  have hib : inByteB f = true := by rcases hf with rfl | rfl | rfl | rfl | rfl <;> rfl
  have HF : Hid (rF L m f p e = (m.setF f (rByte L p e (topF m.kind f)).1, (rByte L p e (topF m.kind f)).2)) := by
    show _ = _
    unfold rF
    rw [if_neg (by omega), if_neg (by omega), if_neg (by omega), if_pos hib]
  have hrb := rbyte_any w rb g L p e (topF m.kind f) h
  obtain ⟨x, hx⟩ := rb_u8 L p e (topF m.kind f)
  have hxl := x.toNat_lt
  rw [hx] at hrb HF
  generalize (rByte L p e (topF m.kind f)).2 = pe at *
  have hbd := fun w => bounds_any m.kind f hfld w
  generalize topF m.kind f = tp at *
  generalize lowF f = lw at *
  have hib2 := fun w => inByte_any f hfld w
  rw [hib] at hib2
  have h32 : ((f : Int) == 32) = false := by rw [beq_eq_false_iff_ne]; omega
  have h4096 : ((f : Int) == 4096) = false := by rw [beq_eq_false_iff_ne]; omega
  have h16384 : ((f : Int) == 16384) = false := by rw [beq_eq_false_iff_ne]; omega
  clear hx
  go_enter Try.func56, Try.ntmps56
  go_wp2_with (first
    | (go_at_call 63; refine (hbd _).mono ?_; rintro r w1 ⟨rfl, rfl⟩)
    | (go_at_call 49; refine (hib2 _).mono ?_; rintro r w1 ⟨rfl, rfl⟩)
    | (go_at_call 55; refine hrb.mono ?_; rintro r w1 ⟨rfl, hto1⟩; have hm1 := hm.keep hto1.kept (fun k hk e => by omega))
    | (go_at_call 80; refine (setNumber_any m f x.toNat hfn (fun _ => by omega) ro lo rc lc _ mb hm1.at_).mono ?_; rintro r w2 ⟨rfl, hm2, hk2, hz2⟩))
  go_end0
  refine ⟨rfl, ?_⟩
  rw [HF.out]
  exact rm_num hlt hgl hm hto1 hm2 hk2

set_option maxRecDepth 20000 in
set_option maxHeartbeats 2000000 in
theorem read_num (w : World) (rb g mb : Nat) (L : List UInt8) (p e : Nat) (m : Msg) (ro lo : Option Addr) (rc lc : Nat) (f : Nat) (hf : f = 1 ∨ f = 2 ∨ f = 4 ∨ f = 64 ∨ f = 256 ∨ f = 2048 ∨ f = 8192) (hlt : rb < mb) (h : RD w rb g L p e) (hm : MR w mb m ro lo rc lc) :
    Calls Try.prog 56 #[.pointer (some ⟨rb, 0, none⟩), .pointer (some ⟨mb, 0, none⟩), .int .u64 (f : Int)] w fun r w' => r = .returned (.tuple #[]) ∧ RM w w' rb g mb L (rF L m f p e) := by
  have c0 := hm.at_.cells 0 _ rfl
  have hgl := h.lt
  have hfld : Fld f := by unfold Fld; omega
  have hfn : FldN f := by unfold FldN; omega
  have hib : inByteB f = false := by rcases hf with rfl | rfl | rfl | rfl | rfl | rfl | rfl <;> rfl
  have hnl : f = 4 ∨ f = 8 ∨ f = 16 ∨ f = 128 ∨ f = 512 ∨ f = 1024 → (rNum L p e (topF m.kind f)).1 ≤ 9223372036854775807 := by
    intro h4
    have h4' : f = 4 := by omega
    have := rNum_le L p e (topF m.kind f)
    have e4 : topF m.kind f = 4095 := by subst h4'; rfl
    omega
  have HF : Hid (rF L m f p e = (m.setF f (rNum L p e (topF m.kind f)).1, (rNum L p e (topF m.kind f)).2)) := by
    show _ = _
    unfold rF
    rw [if_neg (by omega), if_neg (by omega), if_neg (by omega), if_neg (by rw [hib]; decide)]
  have hrn := rnum_any w rb g L p e (topF m.kind f) h
  generalize rNum L p e (topF m.kind f) = N at *
  have hbd := fun w => bounds_any m.kind f hfld w
  generalize topF m.kind f = tp at *
  generalize lowF f = lw at *
  have hib2 := fun w => inByte_any f hfld w
  rw [hib] at hib2
  have h32 : ((f : Int) == 32) = false := by rw [beq_eq_false_iff_ne]; omega
  have h4096 : ((f : Int) == 4096) = false := by rw [beq_eq_false_iff_ne]; omega
  have h16384 : ((f : Int) == 16384) = false := by rw [beq_eq_false_iff_ne]; omega
  go_enter Try.func56, Try.ntmps56
  go_wp2_with (first
    | (go_at_call 63; refine (hbd _).mono ?_; rintro r w1 ⟨rfl, rfl⟩)
    | (go_at_call 49; refine (hib2 _).mono ?_; rintro r w1 ⟨rfl, rfl⟩)
    | (go_at_call 81; refine hrn.mono ?_; rintro r w1 ⟨rfl, hto1⟩; have hm1 := hm.keep hto1.kept (fun k hk e => by omega))
    | (go_at_call 80; refine (setNumber_any m f N.1 hfn hnl ro lo rc lc _ mb hm1.at_).mono ?_; rintro r w2 ⟨rfl, hm2, hk2, hz2⟩))
  go_end0
  refine ⟨rfl, ?_⟩
  rw [HF.out]
  exact rm_num hlt hgl hm hto1 hm2 hk2

set_option maxRecDepth 20000 in
set_option maxHeartbeats 2000000 in
theorem read_target (w : World) (rb g mb : Nat) (L : List UInt8) (p e : Nat) (m : Msg) (ro lo : Option Addr) (rc lc : Nat) (hlt : rb < mb) (h : RD w rb g L p e) (hm : MR w mb m ro lo rc lc) :
    Calls Try.prog 56 #[.pointer (some ⟨rb, 0, none⟩), .pointer (some ⟨mb, 0, none⟩), .int .u64 (32 : Int)] w fun r w' => r = .returned (.tuple #[]) ∧ RM w w' rb g mb L (rF L m 32 p e) := by
  have c0 := hm.at_.cells 0 _ rfl
  have hgl := h.lt
  have HF : Hid (rF L m 32 p e = ({ m with tn := (rID L p e).1.1, ts := (rID L p e).1.2 }, (rID L p e).2)) := rfl
  have hrn := readID_any w rb g L p e h
  generalize rID L p e = N at *
  obtain ⟨⟨x1, x2⟩, N2⟩ := N
  have hbd := fun w => bounds_any m.kind 32 (by unfold Fld; omega) w
  generalize topF m.kind 32 = tp at *
  generalize lowF 32 = lw at *
  go_enter Try.func56, Try.ntmps56
  go_wp2_with (first
    | (go_at_call 63; refine (hbd _).mono ?_; rintro r w1 ⟨rfl, rfl⟩)
    | (go_at_call 77; refine hrn.mono ?_; rintro r w1 ⟨rfl, hto1⟩; have hm1 := hm.keep hto1.kept (fun k hk e => by omega); have d0 := hm1.at_.cells 8 _ rfl; have d1 := hm1.at_.cells 9 _ rfl; have z0 := frozen_at hm1.at_ 8 (by omega); have z1 := frozen_at hm1.at_ 9 (by omega)))
  go_end0
  refine ⟨rfl, ?_⟩
  rw [HF.out]
  have hs := (hm1.at_.set (m' := { m with tn := x1 }) (ro' := ro) (lo' := lo) (rc' := rc) (lc' := lc) 8 (.int .i64 x1) (by omega) rfl).set (m' := { m with tn := x1, ts := x2 }) (ro' := ro) (lo' := lo) (rc' := rc) (lc' := lc) 9 (.int .u64 (x2 : Int)) (by omega) rfl
  have hk := (Kept.setCell w1 ⟨mb, 8, none⟩ (.int .i64 x1)).trans (Kept.setCell _ ⟨mb, 9, none⟩ (.int .u64 (x2 : Int))) (fun _ _ h => h)
  exact ⟨hto1.rd.keep hk (by simp; omega) (by simp; omega), ⟨ro, lo, rc, lc, hs, hm1.refs.keep hk (fun k hk e => by simp at e; omega), hm1.list.keep hk (fun k hk e => by simp at e; omega)⟩, (kept_or hto1.kept).trans (kept_or2 hk) (fun _ _ x => x)⟩

set_option maxRecDepth 20000 in
set_option maxHeartbeats 2000000 in
theorem read_refs (w : World) (rb g mb : Nat) (L : List UInt8) (p e : Nat) (m : Msg) (ro lo : Option Addr) (rc lc : Nat) (hlt : rb < mb) (h : RD w rb g L p e) (hm : MR w mb m ro lo rc lc) :
    Calls Try.prog 56 #[.pointer (some ⟨rb, 0, none⟩), .pointer (some ⟨mb, 0, none⟩), .int .u64 (4096 : Int)] w fun r w' => r = .returned (.tuple #[]) ∧ RM w w' rb g mb L (rF L m 4096 p e) := by
  have c0 := hm.at_.cells 0 _ rfl
  have hgl := h.lt
  have hmb := hm.at_.lt
  have HF : Hid (rF L m 4096 p e = ({ m with refs := (rIDs L p e).1 }, (rIDs L p e).2)) := rfl
  have hrn := readIDs_any w rb g L p e h
  generalize rIDs L p e = N at *
  obtain ⟨xs, N2⟩ := N
  have hbd := fun w => bounds_any m.kind 4096 (by unfold Fld; omega) w
  generalize topF m.kind 4096 = tp at *
  generalize lowF 4096 = lw at *
  go_enter Try.func56, Try.ntmps56
  go_wp2_with (first
    | (go_at_call 63; refine (hbd _).mono ?_; rintro r w1 ⟨rfl, rfl⟩)
    | (go_at_call 78; refine hrn.mono ?_; rintro r w1 ⟨kb, hkb, rfl, hrow, hto1⟩; have hm1 := hm.keep hto1.kept (fun k hk e => by omega); have d0 := hm1.at_.cells 10 _ rfl; have z0 := frozen_at hm1.at_ 10 (by omega)))
  go_end0
  refine ⟨rfl, ?_⟩
  rw [HF.out]
  have hs := hm1.at_.set (m' := { m with refs := xs }) (ro' := some ⟨kb, 0, none⟩) (lo' := lo) (rc' := xs.length) (lc' := lc) 10 (.slice (some ⟨kb, 0, none⟩) xs.length xs.length) (by omega) rfl
  have hk := Kept.setCell w1 ⟨mb, 10, none⟩ (.slice (some ⟨kb, 0, none⟩) xs.length xs.length)
  refine ⟨hto1.rd.keep hk (by simp; omega) (by simp; omega), ⟨_, _, _, _, hs, Or.inr ⟨kb, rfl, rfl, by have := hm.at_.lt; omega, ?_⟩, hm1.list.keep hk (fun k hk e => by simp at e; omega)⟩, (kept_or hto1.kept).trans (kept_or2 hk) (fun _ _ x => x)⟩
  exact (hk.block kb (Array.getElem?_eq_some_iff.1 hrow).1 (by simp; omega)).trans hrow

set_option maxRecDepth 20000 in
set_option maxHeartbeats 2000000 in
theorem read_list (w : World) (rb g mb : Nat) (L : List UInt8) (p e : Nat) (m : Msg) (ro lo : Option Addr) (rc lc : Nat) (hlt : rb < mb) (h : RD w rb g L p e) (hm : MR w mb m ro lo rc lc) :
    Calls Try.prog 56 #[.pointer (some ⟨rb, 0, none⟩), .pointer (some ⟨mb, 0, none⟩), .int .u64 (16384 : Int)] w fun r w' => r = .returned (.tuple #[]) ∧ RM w w' rb g mb L (rF L m 16384 p e) := by
  have c0 := hm.at_.cells 0 _ rfl
  have hgl := h.lt
  have hmb := hm.at_.lt
  have HF : Hid (rF L m 16384 p e = ({ m with list := (rList L p e).1 }, (rList L p e).2)) := rfl
  have hrn := readList_any w rb g L p e h
  generalize rList L p e = N at *
  obtain ⟨xs, N2⟩ := N
  have hbd := fun w => bounds_any m.kind 16384 (by unfold Fld; omega) w
  generalize topF m.kind 16384 = tp at *
  generalize lowF 16384 = lw at *
  go_enter Try.func56, Try.ntmps56
  go_wp2_with (first
    | (go_at_call 63; refine (hbd _).mono ?_; rintro r w1 ⟨rfl, rfl⟩)
    | (go_at_call 79; refine hrn.mono ?_; rintro r w1 ⟨kb, hkb, rfl, hrow, hto1⟩; have hm1 := hm.keep hto1.kept (fun k hk e => by omega); have d0 := hm1.at_.cells 18 _ rfl; have z0 := frozen_at hm1.at_ 18 (by omega)))
  go_end0
  refine ⟨rfl, ?_⟩
  rw [HF.out]
  have hs := hm1.at_.set (m' := { m with list := xs }) (ro' := ro) (lo' := some ⟨kb, 0, none⟩) (rc' := rc) (lc' := xs.length) 18 (.slice (some ⟨kb, 0, none⟩) xs.length xs.length) (by omega) rfl
  have hk := Kept.setCell w1 ⟨mb, 18, none⟩ (.slice (some ⟨kb, 0, none⟩) xs.length xs.length)
  refine ⟨hto1.rd.keep hk (by simp; omega) (by simp; omega), ⟨_, _, _, _, hs, hm1.refs.keep hk (fun k hk e => by simp at e; omega), Or.inr ⟨kb, rfl, rfl, by have := hm.at_.lt; omega, ?_⟩⟩, (kept_or hto1.kept).trans (kept_or2 hk) (fun _ _ x => x)⟩
  exact (hk.block kb (Array.getElem?_eq_some_iff.1 hrow).1 (by simp; omega)).trans hrow

theorem read_any (w : World) (rb g mb : Nat) (L : List UInt8) (p e : Nat) (m : Msg) (ro lo : Option Addr) (rc lc : Nat) (f : Nat) (hf : Fld f) (hlt : rb < mb) (h : RD w rb g L p e) (hm : MR w mb m ro lo rc lc) :
    Calls Try.prog 56 #[.pointer (some ⟨rb, 0, none⟩), .pointer (some ⟨mb, 0, none⟩), .int .u64 (f : Int)] w fun r w' => r = .returned (.tuple #[]) ∧ RM w w' rb g mb L (rF L m f p e) := by
  by_cases h1 : f = 32
  · subst h1; exact read_target w rb g mb L p e m ro lo rc lc hlt h hm
  by_cases h2 : f = 4096
  · subst h2; exact read_refs w rb g mb L p e m ro lo rc lc hlt h hm
  by_cases h3 : f = 16384
  · subst h3; exact read_list w rb g mb L p e m ro lo rc lc hlt h hm
  by_cases h4 : f = 8 ∨ f = 16 ∨ f = 1024 ∨ f = 128 ∨ f = 512
  · exact read_byte w rb g mb L p e m ro lo rc lc f h4 hlt h hm
  · exact read_num w rb g mb L p e m ro lo rc lc f (by unfold Fld at hf; omega) hlt h hm

end Go.Proofs.Ytcpegfjjdojinaa
