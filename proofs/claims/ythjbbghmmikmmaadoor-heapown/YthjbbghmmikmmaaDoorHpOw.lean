/- HeapOwn, walked. -/
import Derived.Test.YthjbbghmmikmmaaDoorHpR
import Derived.Test.YthjbbghmmikmmaaDoorHpEn
import Derived.Test.YthjbbghmmikmmaaDoorHpKn
import Derived.Deep.CutRange
import Derived.Deep.CutBlock
namespace Go.Proofs.YthjbbghmmikmmaaDoor
open Go.RowKit

/-- The j-th number. -/
def yv (v j : Nat) : Nat := (v + j) % 18446744073709551616
theorem wrap_yv (v j : Nat) : IntKind.u64.wrap ((v : Int) + (j : Int)) = ((yv v j : Nat) : Int) := by
  rw [show IntKind.u64.wrap ((v : Int) + (j : Int)) = ((v : Int) + (j : Int)) % 18446744073709551616 by simp [IntKind.wrap, IntKind.bits, IntKind.signed]]
  unfold yv
  omega
/-- The numbers when k of q are written. -/
def vls (v q k : Nat) : List Nat := (List.range k).map (yv v) ++ List.replicate (q - k) 0
theorem vls_len (v q k : Nat) (h : k ≤ q) : (vls v q k).length = q := by simp [vls]; omega
theorem vls_set (v q k : Nat) (h : k < q) : (vls v q k).set k (yv v k) = vls v q (k + 1) := by
  unfold vls
  obtain ⟨m, hm⟩ : ∃ m, q - k = m + 1 := ⟨q - k - 1, by omega⟩
  rw [hm, List.replicate_succ, List.set_append_right _ _ (by simp), List.range_succ, List.map_append]
  simp
  omega
theorem vls_at (v q j : Nat) (h : j < q) : (vls v q q)[j]? = some (yv v j) := by
  unfold vls
  rw [List.getElem?_append_left (by simpa using h), List.getElem?_map, List.getElem?_range h]
  rfl
/-- The heap when k numbers are written. -/
def oSt (bs : List Bk) (c p q v k : Nat) : HSt := ⟨3, 4, 1, bs, [⟨1, c, List.replicate p (0, 0), vls v q k, 0⟩]⟩
theorem oSt_val (bs : List Bk) (c p q v k : Nat) (h : k < q) : (oSt bs c p q v k).setValR 1 (k : Int) = 0 ∧ (oSt bs c p q v k).setValS 1 (k : Int) (yv v k) = oSt bs c p q v (k + 1) := by
  have hl := vls_len v q k (by omega)
  have e : (valR (oSt bs c p q v k).cs 1 (k : Int)).2 = 0 := by
    rw [valR_ok (o := ⟨1, c, List.replicate p (0, 0), vls v q k, 0⟩) rfl (by show k < (vls v q k).length; omega)]
  refine ⟨e, ?_⟩
  unfold HSt.setValS
  rw [if_pos e]
  have : updC (oSt bs c p q v k).cs 1 (fun o => o.setV (k : Int).toNat (yv v k)) = (oSt bs c p q v (k + 1)).cs := by
    show [Oc.setV ⟨1, c, List.replicate p (0, 0), vls v q k, 0⟩ (k : Int).toNat (yv v k)] = [⟨1, c, List.replicate p (0, 0), vls v q (k + 1), 0⟩]
    rw [← vls_set v q k h, Int.toNat_natCast]
    rfl
  rw [this]
  rfl

/-- The object that was told lies in a, its lists in g1 and g2. -/
structure OwnS (w : World) (g : Nat) (wr : World) (hb : Nat) (h : HSt) (a g1 g2 p q c : Nat) : Prop where
  x : HH w g wr hb h (fun k => k = a ∨ k = g1 ∨ k = g2)
  bx : Row wr a 50 [.int .u64 1, .int .i64 (c : Int), .slice (some ⟨g1, 0, none⟩) p p, .slice (some ⟨g2, 0, none⟩) q q, .int .i64 0]
  r1 : ∃ l, l.length = p * 2 ∧ Row wr g1 31 l
  r2 : ∃ l, l.length = q ∧ Row wr g2 26 l
  ne : a ≠ g1 ∧ a ≠ g2 ∧ g1 ≠ g2
  ge : 0 < g ∧ g ≤ a ∧ g ≤ g1 ∧ g ≤ g2
section
variable {w wr : World} {g hb a g1 g2 p q c : Nat} {h : HSt}
theorem OwnS.set1 (x : OwnS w g wr hb h a g1 g2 p q c) (i j : Nat) (u v : Value) : OwnS w g ((wr.setCell ⟨g1, i, none⟩ u).setCell ⟨g1, j, none⟩ v) hb h a g1 g2 p q c := by
  obtain ⟨n1, n2, n3⟩ := x.ne
  have hk : Kept wr ((wr.setCell ⟨g1, i, none⟩ u).setCell ⟨g1, j, none⟩ v) (fun k => k = g1) := (Kept.setCell wr ⟨g1, i, none⟩ u).trans (Kept.setCell _ ⟨g1, j, none⟩ v) (fun _ _ e => e)
  obtain ⟨l1, h1, r1⟩ := x.r1
  obtain ⟨l2, h2, r2⟩ := x.r2
  exact ⟨x.x.other hk (fun k e => ⟨Or.inr (Or.inl e), by have e' : k = g1 := e; have := x.ge; omega⟩) x.ge.1, x.bx.kept hk (by show ¬ (a = g1); omega), ⟨_, by simpa using h1, (r1.set i u).set j v⟩, ⟨l2, h2, r2.kept hk (by show ¬ (g2 = g1); omega)⟩, x.ne, x.ge⟩
theorem OwnS.set2 (x : OwnS w g wr hb h a g1 g2 p q c) (i : Nat) (u : Value) : OwnS w g (wr.setCell ⟨g2, i, none⟩ u) hb h a g1 g2 p q c := by
  obtain ⟨n1, n2, n3⟩ := x.ne
  have hk : Kept wr (wr.setCell ⟨g2, i, none⟩ u) (fun k => k = g2) := Kept.setCell wr ⟨g2, i, none⟩ u
  obtain ⟨l1, h1, r1⟩ := x.r1
  obtain ⟨l2, h2, r2⟩ := x.r2
  exact ⟨x.x.other hk (fun k e => ⟨Or.inr (Or.inr e), by have e' : k = g2 := e; have := x.ge; omega⟩) x.ge.1, x.bx.kept hk (by show ¬ (a = g2); omega), ⟨l1, h1, r1.kept hk (by show ¬ (g1 = g2); omega)⟩, ⟨_, by simpa using h2, r2.set i u⟩, x.ne, x.ge⟩
end

set_option maxRecDepth 20000 in
set_option maxHeartbeats 2000000 in
theorem heapOwn_any (refs vals : Int) (v : Nat) (w : World) (hT : TB w) :
    Calls Tryd.prog 6 #[.int .i64 refs, .int .i64 vals, .int .u64 (v : Int)] w fun e w' => e = .returned (.bool true) ∧ Below w.heap.size w w' := by
  have hNew : ∀ w, TB w → Calls Tryd.prog 9 #[.int .i64 3, .int .i64 64, .int .i64 4, .int .u64 0] w fun e w' => ∃ hb, e = .returned (.tuple #[.pointer (some ⟨hb, 0, none⟩), .int .i64 0]) ∧ HH w w.heap.size w' hb ⟨3, 4, 0, List.replicate 4 bk0, []⟩ (fun _ => False) := fun w hT => HH.new 3 4 4 0 (by omega) (by omega) (by omega) (by omega) w hT
  have hp7 := pickN_lt refs 8 (by omega)
  have hq7 := pickN_lt vals 8 (by omega)
  have hm := make_room (h := ⟨3, 4, 0, List.replicate 4 bk0, []⟩) (r := (pickN refs 8 : Int)) (v := (pickN vals 8 : Int)) (AO.new 4) (by omega) (by simp) (by simp) (by
    rw [room0 4 _ (by omega) (by omega)]
    have hk := (classN_is (s := 1 + (pickN refs 8 : Int) + (pickN vals 8 : Int)) (by omega) (by omega)).1
    have := (isC_div hk).1
    omega)
  have hM := fun W hb (y : HH w w.heap.size W hb ⟨3, 4, 0, List.replicate 4 bk0, []⟩ (fun _ => False)) => y.make (pickN refs 8 : Int) (pickN vals 8 : Int)
  have hms : HSt.makeS ⟨3, 4, 0, List.replicate 4 bk0, []⟩ (pickN refs 8 : Int) (pickN vals 8 : Int) = oSt (allocL (List.replicate 4 bk0) (1 + (pickN refs 8 : Int) + (pickN vals 8 : Int))) (allocR (List.replicate 4 bk0) (1 + (pickN refs 8 : Int) + (pickN vals 8 : Int))).1 (pickN refs 8) (pickN vals 8) v 0 := by
    rw [hm.2.1]
    simp [oSt, HSt.newO, vls]
  rw [hm.1, hms] at hM
  clear hm hms
  generalize allocL (List.replicate 4 bk0) (1 + (pickN refs 8 : Int) + (pickN vals 8 : Int)) = bs at *
  generalize (allocR (List.replicate 4 bk0) (1 + (pickN refs 8 : Int) + (pickN vals 8 : Int))).1 = c at *
  have hGp := hT.size
  go_enter Tryd.func6, Tryd.ntmps6
  go_wp2_with fail
  refine (hNew _ hT).mono ?_
  rintro e w1 ⟨hb, rfl, x1⟩
  go_wp2_with fail
  refine (hknown_any _ x1.tb).mono ?_
  rintro e w2 ⟨rfl, hb2⟩
  have x2 := x1.read hb2
  clear x1 hb2 hNew
  go_wp2_with fail
  refine (pick_any refs 8 (by omega) (by omega) _).mono ?_
  rintro e _ ⟨rfl, rfl⟩
  go_wp2_with fail
  refine (pick_any vals 8 (by omega) (by omega) _).mono ?_
  rintro e _ ⟨rfl, rfl⟩
  go_upto_block 0 with (go_at_call 11; refine (hM _ _ x2).mono ?_; rintro e w3 ⟨rfl, x3, _⟩)
  clear hM x2
  generalize pickN refs 8 = p at *
  generalize pickN vals 8 = q at *
  generalize hG : w.heap.size = g at *
  go_cut [11] from 47 to 59 (fun _ wc => HH w g wc hb (oSt bs c p q v q) (fun _ => False))
  case first =>
    go_wp2
    go_loopw [11] (fun i wr => ∃ k : Nat, k ≤ q ∧ i = .int .i64 (k : Int) ∧ HH w g wr hb (oSt bs c p q v k) (fun _ => False)) (fun i _ => q - (intOf i).toNat)
    case atStart => exact ⟨0, Nat.zero_le _, rfl, x3⟩
    case round =>
      clear x3
      obtain ⟨k, hk, rfl, x⟩ := hrel
      by_cases hlt : (k : Int) < (q : Int)
      · obtain ⟨e1, e2⟩ := oSt_val bs c p q v k (by omega)
        have hSv := fun W (y : HH w g W hb (oSt bs c p q v k) (fun _ => False)) => y.setVal 1 (by omega) (k : Int) (yv v k)
        rw [e1, e2] at hSv
        have hy := wrap_yv v k
        generalize yv v k = y at *
        clear e1 e2
        go_wp2_with (go_at_call 21; refine (hSv _ x).mono ?_; rintro e w4 ⟨rfl, x4, _⟩)
        go_roundw
        case rel => exact ⟨k + 1, by omega, by go_num, x4⟩
        case measure => simp [intOf]; omega
      · have : k = q := by omega
        subst this
        go_wp2
        go_meet
        exact x
  case rest =>
    have x4 := hcut
    obtain ⟨w4, hw4⟩ : ∃ x, x = wc := ⟨_, rfl⟩
    subst hw4
    clear hcut x3
    have hOb := fun W X (y : HH w g W hb (oSt bs c p q v q) X) => y.objOk 1 (by omega) ⟨1, c, List.replicate p (0, 0), vls v q q, 0⟩ rfl
    unfold Pl.v at hOb
    simp only [List.length_replicate, vls_len v q q (Nat.le_refl _)] at hOb
    have HO : Hid _ := hidden hOb
    have hA : ∀ (W : World) o, Below W.heap.size W (W.alloc o) := fun W o => (Below.refl _ _).alloc (Nat.le_refl _) o
    clear hOb
    generalize oSt bs c p q v q = hq at *
    go_upto_block 2 with (go_at_call 22; refine (HO.out _ _ x4).mono ?_; rintro e w5 ⟨g1, g2, rfl, r1, r2, hg1, hg2, hb5⟩)
    have x5 := (x4.fence hb5).box (.cells #[.int .u64 1, .int .i64 (c : Int), .slice (some ⟨g1, 0, none⟩) p p, .slice (some ⟨g2, 0, none⟩) q q, .int .i64 0] 50)
    have l1 := r1.lt
    have l2 := r2.lt
    have hle4 := x4.le
    obtain ⟨a, ha⟩ : ∃ a, a = w5.heap.size := ⟨_, rfl⟩
    have y5 : OwnS w g (w5.alloc (.cells #[.int .u64 1, .int .i64 (c : Int), .slice (some ⟨g1, 0, none⟩) p p, .slice (some ⟨g2, 0, none⟩) q q, .int .i64 0] 50)) hb hq a g1 g2 p q c := by
      refine ⟨x5.off _ (fun k hk => ?_), by rw [ha]; exact heap_alloc_new w5 _, ⟨_, by rw [idsV_len, List.length_replicate], r1.below (hA _ _)⟩, ⟨_, by rw [List.length_map, vls_len v q q (Nat.le_refl _)], r2.below (hA _ _)⟩, ⟨by omega, by omega, by omega⟩, ⟨by omega, by omega, by omega, by omega⟩⟩
      rcases hk with e | e | e
      · exact Or.inr (by omega)
      · exact Or.inl (Or.inr ⟨by omega, by omega⟩)
      · exact Or.inl (Or.inr ⟨by omega, by omega⟩)
    rw [← ha]
    clear x4 x5 r1 r2 hg1 hg2 hb5 l1 l2 hle4 ha
    go_cut [14] from 66 to 77 (fun _ wc => OwnS w g wc hb hq a g1 g2 p q c)
    case first =>
      go_wp2
      go_loopw [14] (fun i wr => ∃ k : Nat, k ≤ p ∧ i = .int .i64 (k : Int) ∧ OwnS w g wr hb hq a g1 g2 p q c) (fun i _ => p - (intOf i).toNat)
      case atStart => exact ⟨0, Nat.zero_le _, rfl, y5⟩
      case round =>
        clear y5
        obtain ⟨k, hk, rfl, y⟩ := hrel
        have c2 := y.bx.cell 2 (by simp)
        simp only [List.getElem_cons_succ, List.getElem_cons_zero] at c2
        by_cases hlt : (k : Int) < (p : Int)
        · obtain ⟨l, hl, r⟩ := y.r1
          have d0 := r.cell (k * 2) (by omega)
          have d1 := r.cell (k * 2 + 1) (by omega)
          have f0 := r.frozen
          have HY : Hid _ := hidden (y.set1 (k * 2) (k * 2 + 1) (.int .i64 9) (.int .u64 9))
          have HK : Hid (k + 1 ≤ p) := by
            have e : k + 1 ≤ p := by omega
            exact e
          generalize l[k * 2] = u0 at *
          generalize l[k * 2 + 1] = u1 at *
          clear r hl y
          go_wp2
          go_roundw
          case rel => exact ⟨k + 1, HK.out, by go_num, HY.out⟩
          case measure => have := HK.out; simp [intOf]; omega
        · go_wp2
          go_meet
          exact y
    case rest =>
      have y6 := hcut
      obtain ⟨w6, hw6⟩ : ∃ x, x = wc := ⟨_, rfl⟩
      subst hw6
      clear hcut y5
      go_upto_block 4 with fail
      go_cut [15] from 78 to 88 (fun _ wc => OwnS w g wc hb hq a g1 g2 p q c)
      case first =>
        go_wp2
        go_loopw [15] (fun i wr => ∃ k : Nat, k ≤ q ∧ i = .int .i64 (k : Int) ∧ OwnS w g wr hb hq a g1 g2 p q c) (fun i _ => q - (intOf i).toNat)
        case atStart => exact ⟨0, Nat.zero_le _, rfl, y6⟩
        case round =>
          clear y6
          obtain ⟨k, hk, rfl, y⟩ := hrel
          have c3 := y.bx.cell 3 (by simp)
          simp only [List.getElem_cons_succ, List.getElem_cons_zero] at c3
          by_cases hlt : (k : Int) < (q : Int)
          · obtain ⟨l, hl, r⟩ := y.r2
            have d0 := r.cell k (by omega)
            have f0 := r.frozen
            have HY : Hid _ := hidden (y.set2 k (.int .u64 7))
            have HK : Hid (k + 1 ≤ q) := by
              have e : k + 1 ≤ q := by omega
              exact e
            generalize l[k] = u0 at *
            clear r hl y
            go_wp2
            go_roundw
            case rel => exact ⟨k + 1, HK.out, by go_num, HY.out⟩
            case measure => have := HK.out; simp [intOf]; omega
          · go_wp2
            go_meet
            exact y
      case rest =>
        have y7 := hcut
        obtain ⟨w7, hw7⟩ : ∃ x, x = wc := ⟨_, rfl⟩
        subst hw7
        clear hcut y6
        have x7 := y7.x
        go_wp2_with fail
        refine (HO.out _ _ x7).mono ?_
        rintro e w8 ⟨e1, e2, rfl, r1, r2, hg1, hg2, hb8⟩
        have l1 := r1.lt
        have l2 := r2.lt
        have hB8 := (x7.read hb8).bel
        have hle8 := (x7.read hb8).le
        have hD1 : ∀ o (k : Nat), k < p → (w8.alloc o).cell? ⟨e1, k * 2, none⟩ = some (.int .i64 0) ∧ (w8.alloc o).cell? ⟨e1, k * 2 + 1, none⟩ = some (.int .u64 0) := fun o k hk => by
          obtain ⟨i0, i1⟩ := idsV_at (List.replicate p ((0, 0) : Int × Nat)) k (by simpa using hk)
          rw [List.getElem_replicate] at i0 i1
          exact ⟨(r1.below (hA _ o)).at _ _ i0, (r1.below (hA _ o)).at _ _ i1⟩
        have hD2 : ∀ o (k : Nat), k < q → (w8.alloc o).cell? ⟨e2, k, none⟩ = some (.int .u64 ((yv v k : Nat) : Int)) := fun o k hk => (r2.below (hA _ o)).at _ _ (by rw [List.getElem?_map, vls_at v q k hk]; rfl)
        have hgd := guardID
        have heq := eqID
        have HB : Hid (∀ o, Below g w (w8.alloc o)) := fun o => hB8.trans ((hA _ o).mono hle8)
        clear x7 y7 HO r1 r2 hb8 hB8
        go_wp2
        go_loop [18] (fun i => ∃ k : Nat, k ≤ p ∧ i = .int .i64 (k : Int)) (fun i => p - (intOf i).toNat)
        case atStart => exact ⟨0, Nat.zero_le _, rfl⟩
        case round =>
          obtain ⟨k, hk, rfl⟩ := hrel
          by_cases hlt : (k : Int) < (p : Int)
          · have d0 := fun o => (hD1 o k (by omega)).1
            have d1 := fun o => (hD1 o k (by omega)).2
            have HK : Hid (k + 1 ≤ p) := by
              have e : k + 1 ≤ p := by omega
              exact e
            clear hD1 hD2
            go_wp2
            go_round
            case rel => exact ⟨k + 1, HK.out, by go_num⟩
            case measure => have := HK.out; simp [intOf]; omega
          · clear hD1
            go_wp2
            go_loop [19] (fun i => ∃ k : Nat, k ≤ q ∧ i = .int .i64 (k : Int)) (fun i => q - (intOf i).toNat)
            case atStart => exact ⟨0, Nat.zero_le _, rfl⟩
            case round =>
              obtain ⟨j, hj, rfl⟩ := hrel
              by_cases hlt2 : (j : Int) < (q : Int)
              · have d0 := fun o => hD2 o j (by omega)
                have hy := wrap_yv v j
                have HK : Hid (j + 1 ≤ q) := by
                  have e : j + 1 ≤ q := by omega
                  exact e
                generalize yv v j = y at *
                clear hD2
                go_wp2
                go_round
                case rel => exact ⟨j + 1, HK.out, by go_num⟩
                case measure => have := HK.out; simp [intOf]; omega
              · go_wp2
                go_ret
                exact ⟨rfl, HB.out _⟩

end Go.Proofs.YthjbbghmmikmmaaDoor
