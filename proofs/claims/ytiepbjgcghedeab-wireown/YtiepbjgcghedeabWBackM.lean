/- A message that was laid is read again as itself: plain facts. -/
import Derived.Test.YtiepbjgcghedeabWReadOk
import Derived.Test.YtiepbjgcghedeabWalkFP
namespace Go.Proofs.Ytiepbjgcghedeab
open Go.RowKit

/-- The field f of x as m's. -/
def getF (m x : Msg) (f : Nat) : Msg :=
  if f = 1 then { x with call := m.call } else
  if f = 2 then { x with floor := m.floor } else
  if f = 4 then { x with item := m.item } else
  if f = 8 then { x with op := m.op } else
  if f = 16 then { x with fld := m.fld } else
  if f = 32 then { x with tn := m.tn, ts := m.ts } else
  if f = 64 then { x with seq := m.seq } else
  if f = 128 then { x with vou := m.vou } else
  if f = 256 then { x with at_ := m.at_ } else
  if f = 512 then { x with dist := m.dist } else
  if f = 1024 then { x with code := m.code } else
  if f = 2048 then { x with val := m.val } else
  if f = 4096 then { x with refs := m.refs } else
  if f = 8192 then { x with stamp := m.stamp } else
  if f = 16384 then { x with list := m.list } else x

theorem getF_comm (m n x : Msg) {f g : Nat} (hf : Fld f) (hg : Fld g) (hne : f ≠ g) : getF n (getF m x f) g = getF m (getF n x g) f := by
  rcases hf with rfl | rfl | rfl | rfl | rfl | rfl | rfl | rfl | rfl | rfl | rfl | rfl | rfl | rfl | rfl <;>
    rcases hg with rfl | rfl | rfl | rfl | rfl | rfl | rfl | rfl | rfl | rfl | rfl | rfl | rfl | rfl | rfl <;> first | rfl | exact absurd rfl hne
theorem getF_kind (m x : Msg) {f : Nat} (hf : Fld f) : (getF m x f).kind = x.kind := by
  rcases hf with rfl | rfl | rfl | rfl | rfl | rfl | rfl | rfl | rfl | rfl | rfl | rfl | rfl | rfl | rfl <;> rfl

theorem u64_zero {z : Int} (h : I64 z) (h0 : u64 z = 0) : z = 0 := by
  unfold I64 at h
  unfold u64 at h0
  have h1 := Int.emod_nonneg z (show (18446744073709551616 : Int) ≠ 0 by decide)
  omega
theorem u64_nat {z : Int} {n : Nat} (h : I64 z) (h0 : u64 z = n) (hn : n < 9223372036854775808) : z = (n : Int) := by
  unfold I64 at h
  unfold u64 at h0
  have h1 := Int.emod_nonneg z (show (18446744073709551616 : Int) ≠ 0 by decide)
  omega

/-- What is not there is zero. -/
theorem getF_zero {m x : Msg} {f : Nat} (hm : m.Ok) (hf : Fld f) (hz : zeroB m f = true) (hx : getF zeroM x f = x) : getF m x f = x := by
  have e : getF m x f = getF zeroM x f := by
    rcases hf with rfl | rfl | rfl | rfl | rfl | rfl | rfl | rfl | rfl | rfl | rfl | rfl | rfl | rfl | rfl
    · have h : m.call = 0 := by simpa [zeroB, Msg.num] using hz
      simp [getF, h, zeroM]
    · have h : m.floor = 0 := by simpa [zeroB, Msg.num] using hz
      simp [getF, h, zeroM]
    · have h : m.item = 0 := u64_zero hm.item (by simpa [zeroB, Msg.num] using hz)
      simp [getF, h, zeroM]
    · have h : m.op = 0 := u64_zero hm.op (by simpa [zeroB, Msg.num] using hz)
      simp [getF, h, zeroM]
    · have h : m.fld = 0 := u64_zero hm.fld (by simpa [zeroB, Msg.num] using hz)
      simp [getF, h, zeroM]
    · have h : m.tn = 0 ∧ m.ts = 0 := by simpa [zeroB, isNoneB] using hz
      simp [getF, h.1, h.2, zeroM]
    · have h : m.seq = 0 := by simpa [zeroB, Msg.num] using hz
      simp [getF, h, zeroM]
    · have h : m.vou = 0 := u64_zero hm.vou (by simpa [zeroB, Msg.num] using hz)
      simp [getF, h, zeroM]
    · have h : m.at_ = 0 := by simpa [zeroB, Msg.num] using hz
      simp [getF, h, zeroM]
    · have h : m.dist = 0 := u64_zero hm.dist (by simpa [zeroB, Msg.num] using hz)
      simp [getF, h, zeroM]
    · have h : m.code = 0 := u64_zero hm.code (by simpa [zeroB, Msg.num] using hz)
      simp [getF, h, zeroM]
    · have h : m.val = 0 := by simpa [zeroB, Msg.num] using hz
      simp [getF, h, zeroM]
    · have h : m.refs = [] := by simpa [zeroB] using hz
      simp [getF, h, zeroM]
    · have h : m.stamp = 0 := by simpa [zeroB, Msg.num] using hz
      simp [getF, h, zeroM]
    · have h : m.list = [] := by simpa [zeroB] using hz
      simp [getF, h, zeroM]
  rw [e, hx]

/-- One number, set as it is. -/
theorem setF_get {m x : Msg} {f : Nat} (hm : m.Ok) (hf : FldN f) (hs : f = 4 ∨ f = 8 ∨ f = 16 ∨ f = 128 ∨ f = 512 ∨ f = 1024 → m.num f < 9223372036854775808) : x.setF f (m.num f) = getF m x f := by
  rcases hf with rfl | rfl | rfl | rfl | rfl | rfl | rfl | rfl | rfl | rfl | rfl | rfl
  · rfl
  · rfl
  · have h := u64_nat hm.item rfl (hs (by omega))
    show { x with item := ((u64 m.item : Nat) : Int) } = { x with item := m.item }
    rw [← h]
  · have h := u64_nat hm.op rfl (hs (by omega))
    show { x with op := ((u64 m.op : Nat) : Int) } = { x with op := m.op }
    rw [← h]
  · have h := u64_nat hm.fld rfl (hs (by omega))
    show { x with fld := ((u64 m.fld : Nat) : Int) } = { x with fld := m.fld }
    rw [← h]
  · rfl
  · have h := u64_nat hm.vou rfl (hs (by omega))
    show { x with vou := ((u64 m.vou : Nat) : Int) } = { x with vou := m.vou }
    rw [← h]
  · rfl
  · have h := u64_nat hm.dist rfl (hs (by omega))
    show { x with dist := ((u64 m.dist : Nat) : Int) } = { x with dist := m.dist }
    rw [← h]
  · have h := u64_nat hm.code rfl (hs (by omega))
    show { x with code := ((u64 m.code : Nat) : Int) } = { x with code := m.code }
    rw [← h]
  · rfl
  · rfl

theorem u8_nat {n : Nat} (h : n < 256) : (u8 (n : Int)).toNat = n := by simp [u8]; omega
theorem u8_int {z : Int} (h0 : 0 ≤ z) (h : z < 256) : ((u8 z).toNat : Int) = z := by simp [u8]; omega

theorem drop_more {L a b : List UInt8} {p : Nat} (h : L.drop p = a ++ b) : L.drop (p + a.length) = b := by
  rw [← List.drop_drop, h]; simp

theorem flat_split {α β : Type} (g : α → List β) (xs : List α) (k : Nat) (hk : k < xs.length) : xs.flatMap g = (xs.take k).flatMap g ++ (g xs[k] ++ (xs.drop (k + 1)).flatMap g) := by
  rw [← List.flatMap_cons, ← List.drop_eq_getElem_cons hk, ← List.flatMap_append, List.take_append_drop]

theorem isID_in {x : Int × Nat} (h : isIDB x = true) : 0 ≤ x.1 ∧ x.1 ≤ 64 ∧ x.2 ≤ 72057594037927935 := by
  simp [isIDB, isNoneB, isNodeB, isSerialB] at h
  omega

theorem rID_lay {L r : List UInt8} {p : Nat} {x : Int × Nat} (h : L.drop p = layIDB x ++ r) (hx : isIDB x = true) : rID L p 0 = (x, p + (layIDB x).length, 0) := by
  obtain ⟨h0, h1, h2⟩ := isID_in hx
  have h3 : L.drop p = [u8 x.1] ++ (numB x.2 ++ r) := h
  have e8 := u8_int h0 (by omega)
  have hb := rByte_lay (most := 64) h3 (by omega)
  have hn := rNum_lay (most := 72057594037927935) (drop_more h3) (by omega) h2
  unfold rID
  rw [hb]
  simp only [List.length_singleton] at hn
  rw [hn, e8]
  simp [layIDB]
  omega

theorem rIn_lay {L r : List UInt8} {p : Nat} {xs : List (Int × Nat)} (h : L.drop p = xs.flatMap layIDB ++ r) (hx : xs.all isIDB = true) : ∀ k, k ≤ xs.length → rIn L k p 0 = (xs.take k, p + ((xs.take k).flatMap layIDB).length, 0) := by
  intro k
  induction k with
  | zero => intro _; simp [rIn]
  | succ k ih =>
    intro hk
    have e := ih (by omega)
    have hsplit := flat_split layIDB xs k (by omega)
    have hd : L.drop (p + ((xs.take k).flatMap layIDB).length) = layIDB xs[k] ++ ((xs.drop (k + 1)).flatMap layIDB ++ r) := by
      rw [hsplit, List.append_assoc] at h
      rw [drop_more h, List.append_assoc]
    have hi := rID_lay hd (List.all_eq_true.1 hx _ (List.getElem_mem _))
    simp only [rIn]
    rw [e]
    simp only
    rw [hi, List.take_succ_eq_append_getElem (by omega : k < xs.length), List.flatMap_append]
    simp
    omega

theorem rLs_lay {L r : List UInt8} {p : Nat} {xs : List Nat} (h : L.drop p = xs.flatMap numB ++ r) (hx : ∀ x ∈ xs, x ≤ 72057594037927935) : ∀ k, k ≤ xs.length → rLs L k p 0 = (xs.take k, p + ((xs.take k).flatMap numB).length, 0) := by
  intro k
  induction k with
  | zero => intro _; simp [rLs]
  | succ k ih =>
    intro hk
    have e := ih (by omega)
    have hsplit := flat_split numB xs k (by omega)
    have hd : L.drop (p + ((xs.take k).flatMap numB).length) = numB xs[k] ++ ((xs.drop (k + 1)).flatMap numB ++ r) := by
      rw [hsplit, List.append_assoc] at h
      rw [drop_more h, List.append_assoc]
    have hle := hx xs[k] (List.getElem_mem _)
    have hi := rNum_lay (most := 72057594037927935) hd (by omega) hle
    simp only [rLs]
    rw [e]
    simp only
    rw [hi, List.take_succ_eq_append_getElem (by omega : k < xs.length), List.flatMap_append]
    simp
    omega

theorem rises_le : ∀ (l : List Nat) (p : Nat), risesFrom p l = true → ∀ x ∈ l, x ≤ 72057594037927935 := by
  intro l
  induction l with
  | nil => intro p _ x hx; simp at hx
  | cons y l ih =>
    intro p h x hx
    simp [risesFrom, isSerialB] at h
    rcases List.mem_cons.1 hx with rfl | hx
    · omega
    · exact ih _ h.2 x hx

/-- A field that was laid is read. -/
theorem rF_lay {L r : List UInt8} {p f : Nat} {m x : Msg} (hm : m.Ok) (hk : x.kind = m.kind) (hf : Fld f) (hfit : fitsB m f = true) (h : L.drop p = layF m f ++ r) : rF L x f p 0 = (getF m x f, p + (layF m f).length, 0) := by
  unfold rF
  by_cases h1 : f = 32
  · subst h1
    rw [if_pos rfl]
    have hi : isIDB (m.tn, m.ts) = true := by simp [fitsB] at hfit; exact hfit.1
    have e := rID_lay (x := (m.tn, m.ts)) h hi
    rw [e]
    rfl
  rw [if_neg h1]
  by_cases h2 : f = 4096
  · subst h2
    rw [if_pos rfl]
    have hi : areIDsB m.refs = true := hfit
    simp [areIDsB] at hi
    have hd : L.drop p = numB m.refs.length ++ (m.refs.flatMap layIDB ++ r) := by rw [h]; show layIDsB m.refs ++ r = _; simp [layIDsB]
    have e1 := rNum_lay (most := 2) hd (by omega) hi.1
    have e2 := rIn_lay (drop_more hd) (by rw [List.all_eq_true]; exact fun y hy => hi.2 y.1 y.2 hy) m.refs.length (Nat.le_refl _)
    unfold rIDs
    rw [e1]
    simp only
    rw [e2, List.take_length]
    show _ = ({ x with refs := m.refs }, p + (layIDsB m.refs).length, 0)
    simp [layIDsB]
    omega
  rw [if_neg h2]
  by_cases h3 : f = 16384
  · subst h3
    rw [if_pos rfl]
    have hi : isListB m.list = true := hfit
    simp [isListB] at hi
    have hd : L.drop p = numB m.list.length ++ (m.list.flatMap numB ++ r) := by rw [h]; show layListB m.list ++ r = _; simp [layListB]
    have e1 := rNum_lay (most := 64) hd (by omega) hi.1
    have e2 := rLs_lay (drop_more hd) (rises_le _ _ hi.2) m.list.length (Nat.le_refl _)
    unfold rList
    rw [e1]
    simp only
    rw [e2, List.take_length]
    show _ = ({ x with list := m.list }, p + (layListB m.list).length, 0)
    simp [layListB]
    omega
  rw [if_neg h3]
  have hu := num_u64 hm f
  unfold U64 at hu
  have hfn : FldN f := by unfold Fld at hf; unfold FldN; omega
  have hle : m.num f ≤ topF m.kind f := by
    by_cases h4 : f = 2
    · subst h4; show m.num 2 ≤ 18446744073709551615; omega
    · simp [fitsB, h1, h2, h3, h4] at hfit; exact hfit.2
  have hl : layF m f = if inByteB f = true then [u8 (m.num f : Int)] else numB (m.num f) := by unfold layF; rw [if_neg h1, if_neg h2, if_neg h3]
  rw [hl] at h ⊢
  rw [hk]
  by_cases h5 : inByteB f = true
  · rw [if_pos h5] at h ⊢
    rw [if_pos h5]
    have ht : topF m.kind f ≤ 255 := by
      have : f = 8 ∨ f = 16 ∨ f = 1024 ∨ f = 128 ∨ f = 512 := by simp [inByteB] at h5; omega
      unfold topF
      repeat' split
      all_goals omega
    have e8 := u8_nat (n := m.num f) (by omega)
    have e1 := rByte_lay (most := topF m.kind f) h (by omega)
    rw [e1, e8]
    rw [setF_get hm hfn (fun _ => by omega)]
    rfl
  · rw [if_neg h5] at h ⊢
    rw [if_neg h5]
    have e1 := rNum_lay (most := topF m.kind f) h hu hle
    rw [e1]
    have h4 : f = 4 ∨ f = 8 ∨ f = 16 ∨ f = 128 ∨ f = 512 ∨ f = 1024 → m.num f < 9223372036854775808 := by
      intro hh
      have : f = 4 := by
        rcases hh with rfl | rfl | rfl | rfl | rfl | rfl
        · rfl
        all_goals exact absurd rfl h5
      subst this
      have : topF m.kind 4 = 4095 := rfl
      omega
    simp only
    rw [setF_get hm hfn h4]

/-- The message with its first j fields, all else zero. -/
def upTo (m : Msg) (j : Nat) : Msg := (flds.take j).foldl (getF m) { zeroM with kind := m.kind, frm := m.frm, to := m.to }
theorem upTo_step (m : Msg) {j : Nat} (h : j < 15) : upTo m (j + 1) = getF m (upTo m j) (2 ^ j) := by
  unfold upTo
  obtain ⟨h3, h4⟩ := List.getElem?_eq_some_iff.1 (fld_pow h).2.1
  rw [List.take_succ_eq_append_getElem h3, List.foldl_append, h4]
  rfl
theorem upTo_all (m : Msg) : upTo m 15 = m := by kernel_rfl
theorem upTo_kind (m : Msg) {j : Nat} (h : j ≤ 15) : (upTo m j).kind = m.kind := by
  induction j with
  | zero => rfl
  | succ j ih => rw [upTo_step m (by omega), getF_kind _ _ (fld_pow (by omega)).1]; exact ih (by omega)
theorem pow_ne {i j : Nat} (h : j < i) : 2 ^ j ≠ 2 ^ i := by
  intro e
  have := Nat.pow_lt_pow_right (show 1 < 2 by omega) h
  omega
theorem upTo_rest (m : Msg) {j : Nat} (hj : j ≤ 15) : ∀ i, j ≤ i → i < 15 → getF zeroM (upTo m j) (2 ^ i) = upTo m j := by
  induction j with
  | zero =>
    intro i _ hi
    have hF := (fld_pow hi).1
    generalize 2 ^ i = f at *
    rcases hF with rfl | rfl | rfl | rfl | rfl | rfl | rfl | rfl | rfl | rfl | rfl | rfl | rfl | rfl | rfl <;> rfl
  | succ j ih =>
    intro i h1 h2
    rw [upTo_step m (by omega), getF_comm m zeroM _ (fld_pow (by omega)).1 (fld_pow h2).1 (pow_ne (by omega)), ih (by omega) i (by omega) h2]

theorem right_ok {m : Msg} (h : rightB m = true) : ∀ f ∈ flds, okF m f = true := by
  simp only [rightB, Bool.and_eq_true] at h
  exact List.all_eq_true.1 h.2
theorem fld_mem {j : Nat} (h : j < 15) : 2 ^ j ∈ flds := List.mem_of_getElem? (fld_pow h).2.1
theorem head_in {m : Msg} (h : rightB m = true) : 1 ≤ m.kind ∧ m.kind ≤ 11 ∧ 1 ≤ m.frm ∧ m.frm ≤ 64 ∧ 1 ≤ m.to ∧ m.to ≤ 64 := by
  simp only [rightB, Bool.and_eq_true, isNodeB, decide_eq_true_eq] at h
  obtain ⟨⟨⟨⟨h1, h2⟩, h3⟩, _⟩, _⟩ := h
  have hk : 1 ≤ m.kind ∧ m.kind ≤ 11 := by
    rcases kinds m.kind with e | e | e | e | e | e | e | e | e | e | e | e
    any_goals omega
    have : hasF m.kind = 0 := by unfold hasF; repeat rw [if_neg (by omega)]
    simp [this] at h1
  omega

theorem drop_pre {L a b : List UInt8} (h : L = a ++ b) : L.drop a.length = b := by subst h; simp

/-- What was laid of a message that may be is read as itself. -/
theorem read_back {m : Msg} (hm : m.Ok) (h : rightB m = true) : ∀ j, j ≤ 15 → rFs (bodyB m) j (rHead (bodyB m) 0 0) = (upTo m j, (headB m ++ (flds.take j).flatMap (fieldB m)).length, 0) := by
  intro j
  obtain ⟨k1, k2, f1, f2, t1, t2⟩ := head_in h
  induction j with
  | zero =>
    intro _
    have hb : (bodyB m).drop 0 = [u8 m.kind] ++ ([u8 m.frm] ++ ([u8 m.to] ++ flds.flatMap (fieldB m))) := rfl
    have e1 := u8_int (z := m.kind) (by omega) (by omega)
    have e2 := u8_int (z := m.frm) (by omega) (by omega)
    have e3 := u8_int (z := m.to) (by omega) (by omega)
    have r1 := rByte_lay (most := 11) hb (by omega)
    have r2 := rByte_lay (most := 64) (drop_more hb) (by omega)
    have r3 := rByte_lay (most := 64) (drop_more (drop_more hb)) (by omega)
    simp only [List.length_singleton] at r2 r3
    show rHead (bodyB m) 0 0 = _
    unfold rHead
    rw [r1]
    simp only
    rw [r2]
    simp only
    rw [r3]
    simp only [e1, e2, e3]
    rfl
  | succ j ih =>
    intro hj
    have hF := (fld_pow (show j < 15 by omega)).1
    have hok := right_ok h _ (fld_mem (show j < 15 by omega))
    rw [rFs_step _ _ _ (by omega), ih (by omega)]
    unfold rStep
    simp only
    rw [upTo_kind m (by omega), upTo_step m (by omega), body_step m (by omega)]
    unfold okF at hok
    by_cases hz : hasF m.kind &&& 2 ^ j = 0
    · rw [if_pos hz] at hok ⊢
      rw [getF_zero hm hF hok (upTo_rest m (by omega) j (Nat.le_refl _) (by omega))]
      rw [show fieldB m (2 ^ j) = [] by unfold fieldB; rw [if_pos hz], List.append_nil]
    · rw [if_neg hz] at hok ⊢
      have hd : (bodyB m).drop (headB m ++ (flds.take j).flatMap (fieldB m)).length = layF m (2 ^ j) ++ (flds.drop (j + 1)).flatMap (fieldB m) := by
        refine drop_pre ?_
        have h2 := (fld_pow (show j < 15 by omega)).2.1
        obtain ⟨h3, h4⟩ := List.getElem?_eq_some_iff.1 h2
        have hs := flat_split (fieldB m) flds j h3
        rw [h4] at hs
        have hfb : fieldB m (2 ^ j) = layF m (2 ^ j) := by unfold fieldB; rw [if_neg hz]
        unfold bodyB
        rw [hs, hfb]
        simp
      rw [rF_lay hm (upTo_kind m (by omega)) hF hok hd]
      rw [show fieldB m (2 ^ j) = layF m (2 ^ j) by unfold fieldB; rw [if_neg hz]]
      simp [Nat.add_assoc]

theorem back_all {m : Msg} (hm : m.Ok) (h : rightB m = true) : rAll (bodyB m) 0 0 = (m, (bodyB m).length, 0) := by
  have e := read_back hm h 15 (Nat.le_refl _)
  rw [upTo_all] at e
  have hk : (rByte (bodyB m) 0 0 11).1 ≠ 0 := by
    obtain ⟨k1, k2, _⟩ := head_in h
    have e1 := u8_int (z := m.kind) (by omega) (by omega)
    have hb : (bodyB m).drop 0 = [u8 m.kind] ++ ([u8 m.frm] ++ ([u8 m.to] ++ flds.flatMap (fieldB m))) := rfl
    rw [rByte_lay (most := 11) hb (by omega)]
    simp only
    omega
  unfold rAll
  rw [if_neg hk, e]
  rfl

end Go.Proofs.Ytiepbjgcghedeab
