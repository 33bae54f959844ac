/- Key, cmp.Compare, the comparison of Outs. -/
import Derived.Test.YtbgaejjoomnklaaDoorPaG
import Derived.Shelf.SlSortCmp.NoneTotal
import Derived.Shelf.SlSortCmp.QuietGrown
import Derived.Shelf.SlGeneric
import Derived.Shelf.Lay
import Derived.Ground.SlsfProg
import Derived.Laws.BitsAllLaws
namespace Go.Proofs.YtbgaejjoomnklaaDoor
open Go.Shelf Go.RowKit Go.Lib
open Go.Sort hiding Below

/-- An ID as one number. -/
def keyN (a n : Nat) : Nat := a * 72057594037927936 + n
set_option maxRecDepth 20000 in
set_option maxHeartbeats 1000000 in
theorem key_any (a n : Nat) (h1 : a ≤ 64) (h2 : n < 72057594037927936) (w : World) :
    Calls Tryd.prog 38 #[.agg #[.int .i64 (a : Int), .int .u64 (n : Int)]] w fun e w' => e = .returned (.int .u64 (keyN a n : Int)) ∧ w' = w.alloc (.cells #[.int .i64 (a : Int), .int .u64 (n : Int)] 31) := by
  unfold keyN
  have HO : Hid (bits .or .u64 ((a : Int) * 72057594037927936) (n : Int) = ((a * 72057594037927936 + n : Nat) : Int)) := by
    have h3 := u64_or_nat (a * 72057594037927936) n (by omega) (by omega)
    have h4 := Nat.shiftLeft_add_eq_or_of_lt (i := 56) (b := n) (by show n < 2 ^ 56; exact h2) a
    rw [Nat.shiftLeft_eq] at h4
    have h5 : (2 : Nat) ^ 56 = 72057594037927936 := by decide
    rw [h5] at h4
    rw [← h4] at h3
    have h6 : ((a * 72057594037927936 : Nat) : Int) = (a : Int) * 72057594037927936 := by omega
    rw [h6] at h3
    exact h3
  go_enter Tryd.func38, Tryd.ntmps38
  go_wp2
  go_ret
  exact ⟨by rw [HO.out]; rfl, rfl⟩
theorem isnan_any (x : Int) (w : World) : Calls Tryd.prog 58 #[.int .u64 x] w fun e w' => e = .returned (.bool false) ∧ w' = w := by
  go_enter Tryd.func58, Tryd.ntmps58
  go_wp2
  go_ret
  exact ⟨rfl, rfl⟩
/-- Which of two is the greater. -/
def cmpN (x y : Nat) : Int := if x < y then -1 else if y < x then 1 else 0
theorem compare_any (x y : Nat) (w : World) : Calls Tryd.prog 37 #[.int .u64 (x : Int), .int .u64 (y : Int)] w fun e w' => e = .returned (.int .i64 (cmpN x y)) ∧ w' = w := by
  have hN := fun z W => isnan_any z W
  by_cases h1 : x < y
  · have e : cmpN x y = -1 := if_pos h1
    rw [e]
    clear e
    go_enter Tryd.func37, Tryd.ntmps37
    go_wp2_with (go_at_call 58; refine (hN _ _).mono ?_; rintro e _ ⟨rfl, rfl⟩)
    go_ret
    exact ⟨rfl, rfl⟩
  · by_cases h2 : y < x
    · have e : cmpN x y = 1 := by unfold cmpN; rw [if_neg h1, if_pos h2]
      rw [e]
      clear e
      go_enter Tryd.func37, Tryd.ntmps37
      go_wp2_with (go_at_call 58; refine (hN _ _).mono ?_; rintro e _ ⟨rfl, rfl⟩)
      go_ret
      exact ⟨rfl, rfl⟩
    · have e : cmpN x y = 0 := by unfold cmpN; rw [if_neg h1, if_neg h2]
      rw [e]
      clear e
      go_enter Tryd.func37, Tryd.ntmps37
      go_wp2_with (go_at_call 58; refine (hN _ _).mono ?_; rintro e _ ⟨rfl, rfl⟩)
      go_ret
      exact ⟨rfl, rfl⟩

/-- What was met: an ID that names, and its rank. -/
abbrev Og : Type := { o : (Int × Nat) × Nat // namesB o.1 = true }
instance : Inhabited Og := ⟨⟨((1, 1), 0), by decide⟩⟩
def Og.cells (o : Og) : List Value := [.int .i64 o.1.1.1, .int .u64 (o.1.1.2 : Int), .int .i64 (o.1.2 : Int)]
def keyI (x : Int × Nat) : Nat := keyN x.1.toNat x.2
def Og.cf (x y : Og) : Int := cmpN (keyI x.1.1) (keyI y.1.1)
theorem names_lt {x : Int × Nat} (h : namesB x = true) : 1 ≤ x.1 ∧ x.1 ≤ 64 ∧ 1 ≤ x.2 ∧ x.2 ≤ 72057594037927935 := by
  simp only [namesB, Bool.and_eq_true, decide_eq_true_eq] at h
  omega
theorem keyI_inj {x y : Int × Nat} (hx : namesB x = true) (hy : namesB y = true) (h : keyI x = keyI y) : x = y := by
  have h1 := names_lt hx
  have h2 := names_lt hy
  unfold keyI keyN at h
  exact Prod.ext (by omega) (by omega)
theorem cmp_lt (x y : Og) : ltOf Og.cf x y = decide (keyI x.1.1 < keyI y.1.1) := by
  unfold ltOf Og.cf cmpN
  by_cases h1 : keyI x.1.1 < keyI y.1.1
  · simp [h1]
  · by_cases h2 : keyI y.1.1 < keyI x.1.1 <;> simp [h1, h2]
theorem og_swo : SWO (ltOf Og.cf) where
  irrefl x := by rw [cmp_lt]; simp
  trans x y z h1 h2 := by rw [cmp_lt] at *; simp at *; omega
  ntrans x y z h1 h2 := by rw [cmp_lt] at *; simp at *; omega

set_option maxRecDepth 20000 in
set_option maxHeartbeats 1000000 in
theorem closure_any (x y : Og) (W : World) : Calls Tryd.prog 36 #[.agg #[.int .i64 x.1.1.1, .int .u64 (x.1.1.2 : Int), .int .i64 (x.1.2 : Int)], .agg #[.int .i64 y.1.1.1, .int .u64 (y.1.1.2 : Int), .int .i64 (y.1.2 : Int)]] W fun e w' => e = .returned (.int .i64 (Og.cf x y)) ∧ ∃ q os', w' = grow (W.drewN q) os' := by
  obtain ⟨⟨⟨a, n⟩, r⟩, hx⟩ := x
  obtain ⟨⟨⟨b, m⟩, s⟩, hy⟩ := y
  have h1 := names_lt hx
  have h2 := names_lt hy
  simp only at h1 h2
  obtain ⟨A, rfl⟩ : ∃ A : Nat, a = (A : Int) := ⟨a.toNat, by omega⟩
  obtain ⟨B, rfl⟩ : ∃ B : Nat, b = (B : Int) := ⟨b.toNat, by omega⟩
  have hK : ∀ (A n : Nat), A ≤ 64 → n < 72057594037927936 → ∀ w : World, Calls Tryd.prog 38 #[.agg #[.int .i64 (A : Int), .int .u64 (n : Int)]] w fun e w' => e = .returned (.int .u64 (keyN A n : Int)) ∧ ∃ q os', w' = grow (w.drewN q) os' := fun A n h1 h2 w => (key_any A n h1 h2 w).mono (fun _ _ ⟨e1, e2⟩ => ⟨e1, 0, _, e2.trans (alloc_eq_grow _ _)⟩)
  have hC : ∀ (x y : Nat) (w : World), Calls Tryd.prog 37 #[.int .u64 (x : Int), .int .u64 (y : Int)] w fun e w' => e = .returned (.int .i64 (cmpN x y)) ∧ ∃ q os', w' = grow (w.drewN q) os' := fun x y w => (compare_any _ _ w).mono (fun _ _ ⟨e1, e2⟩ => ⟨e1, 0, #[], by rw [e2, grow_empty]; rfl⟩)
  have hE : Og.cf ⟨(((A : Int), n), r), hx⟩ ⟨(((B : Int), m), s), hy⟩ = cmpN (keyN A n) (keyN B m) := rfl
  rw [hE]
  show Calls Tryd.prog 36 #[.agg #[.int .i64 (A : Int), .int .u64 (n : Int), .int .i64 (r : Int)], .agg #[.int .i64 (B : Int), .int .u64 (m : Int), .int .i64 (s : Int)]] W _
  have hA : A ≤ 64 := by omega
  have hB : B ≤ 64 := by omega
  have hn : n < 72057594037927936 := by omega
  have hm : m < 72057594037927936 := by omega
  clear hE hx hy h1 h2
  go_enter Tryd.func36, Tryd.ntmps36
  go_wp2
  obtain ⟨w2, hw2⟩ : ∃ z, z = (W.alloc (.cells #[.int .i64 (A : Int), .int .u64 (n : Int), .int .i64 (r : Int)] 46)).alloc (.cells #[.int .i64 (B : Int), .int .u64 (m : Int), .int .i64 (s : Int)] 46) := ⟨_, rfl⟩
  rw [← hw2]
  have a0 := cell_grown (w := w2) (a := ⟨W.heap.size, 0, none⟩) (v := .int .i64 (A : Int)) (by rw [hw2]; simp; omega) (by rw [hw2]; simp)
  have a1 := cell_grown (w := w2) (a := ⟨W.heap.size, 1, none⟩) (v := .int .u64 (n : Int)) (by rw [hw2]; simp; omega) (by rw [hw2]; simp)
  have b0 := cell_grown (w := w2) (a := ⟨W.heap.size + 1, 0, none⟩) (v := .int .i64 (B : Int)) (by rw [hw2]; simp) (by rw [hw2]; simp)
  have b1 := cell_grown (w := w2) (a := ⟨W.heap.size + 1, 1, none⟩) (v := .int .u64 (m : Int)) (by rw [hw2]; simp) (by rw [hw2]; simp)
  have HG : Hid (∀ k os, ∃ q os', grow (w2.drewN k) os = grow (W.drewN q) os') := fun k os => by
    refine ⟨k, #[.cells #[.int .i64 (A : Int), .int .u64 (n : Int), .int .i64 (r : Int)] 46] ++ #[.cells #[.int .i64 (B : Int), .int .u64 (m : Int), .int .i64 (s : Int)] 46] ++ os, ?_⟩
    rw [hw2, alloc_eq_grow, alloc_eq_grow, grow_grow]
    exact grow_grow (W.drewN k) _ _
  clear hw2
  have hmix : Tryd.prog.follows .mixedOrders = true := by kernel_rfl
  go_quiet_grown (first | (go_at_call 37; exact Calls.grown_of (hC _ _ _)) | (go_at_call 38; exact Calls.grown_of (hK _ _ (by assumption) (by assumption) _)))
  go_wp2
  go_ret
  exact ⟨rfl, HG.out _ _⟩

shelf_lay_g SlLaysF0.n6 Slsf 6 at Tryd 35 as Tryd.sortOut

theorem cmpLays_any (blk off size : Nat) (w : World) : CmpLays Tryd.prog 36 #[] Og.cells 3 Og.cf blk off size w :=
  fun _ _ _ _ x y => closure_any x y _
theorem sort_any (blk off cap : Nat) (d : Array Og) (w : World) (hH : HoldsK Og.cells 3 w blk off d) (hblk : blk < w.heap.size) (hsz : d.size < 4611686018427387904) :
    Calls Tryd.prog 35 #[.slice (some ⟨blk, off, none⟩) d.size cap, .func (.func 36) #[] #[]] w fun e w' => e = .returned (.tuple #[]) ∧ ∃ d' n os, PermIn 0 d.size d d' ∧ SortedIn (ltOf Og.cf) 0 d.size d' ∧ w' = sortWorldK Og.cells 3 w blk off n d' os := by
  have eg : ∀ args w, (callFunc 36 args).run Tryd.prog w = .ok (.enter 36 args) w := enters_of Tryd.func36 (by kernel_rfl) rfl
  have hcon := AnyQ.slices_SortFunc Tryd.sortOut 3 Tryd.isAgg46 Tryd.sizeOf46 Og.cells (fun _ => rfl) (fun x v hv => by simp [Og.cells] at hv; rcases hv with rfl | rfl | rfl <;> rfl) Og.cf og_swo 36 #[] blk off cap d w eg (cmpLays_any blk off d.size w) hH hblk hsz
  exact hcon

theorem sort_none (p : Option Addr) (cap : Nat) (fv : Value) (w : World) :
    Calls Tryd.prog 35 #[.slice p 0 cap, fv] w fun e w' => e = .returned (.tuple #[]) ∧ w' = w := AnyF.slices_SortFunc_none Tryd.sortOut p cap fv w

end Go.Proofs.YtbgaejjoomnklaaDoor
