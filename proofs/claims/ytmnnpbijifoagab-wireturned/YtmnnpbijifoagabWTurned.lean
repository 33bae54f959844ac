/- WireTurned: the walk. -/
import Derived.Test.YtmnnpbijifoagabWKnow
import Derived.Test.YtmnnpbijifoagabWCopyWalk
import Derived.Test.YtmnnpbijifoagabWDecBad
import Derived.Test.YtmnnpbijifoagabWalkG
import Derived.Deep.RegionWith
import Derived.Deep.DrawnRows
namespace Go.Proofs.Ytmnnpbijifoagab
open Go.RowKit
attribute [local go_sem ↓] Go.wp_at_zero Go.wp_at_succ

theorem turn_byte (c : UInt8) (p : Nat) (hp : p < 255) : ∃ u : UInt8, bits .xor .u8 (c.toNat : Int) (IntKind.u8.wrap (IntKind.i64.wrap (1 + (p : Int)))) = (u.toNat : Int) ∧ u ≠ c := by
  have hc := c.toNat_lt
  have e : IntKind.u8.wrap (IntKind.i64.wrap (1 + (p : Int))) = ((1 + p : Nat) : Int) := by
    rw [IntKind.wrap_i64, IntKind.wrap_u8']
    omega
  have hx : c.toNat ^^^ (1 + p) < 2 ^ 8 := Nat.xor_lt_two_pow (by omega) (by omega)
  refine ⟨UInt8.ofNat (c.toNat ^^^ (1 + p)), ?_, ?_⟩
  · rw [e, u8_xor_nat _ _ (by omega) (by omega), UInt8.toNat_ofNat', Nat.mod_eq_of_lt (by omega)]
  · intro h
    have h1 := congrArg UInt8.toNat h
    rw [UInt8.toNat_ofNat', Nat.mod_eq_of_lt (by omega)] at h1
    have h2 : c.toNat ^^^ (1 + p) = c.toNat ^^^ 0 := by rw [h1, Nat.xor_zero]
    have := xor_left_cancel h2
    omega

theorem turned_sum (l : List UInt8) (k : Nat) (u : UInt8) (hk : k < (l ++ sumBytes (crc l)).length) (hu : u ≠ (l ++ sumBytes (crc l))[k]) :
    ∃ m x0 x1 x2 x3, (l ++ sumBytes (crc l)).set k u = m ++ [x0, x1, x2, x3] ∧ sumOf x0 x1 x2 x3 ≠ crc m ∧ m.length = l.length := by
  have hs := sumOf_sumBytes (crc l) (crc_lt l)
  by_cases h : k < l.length
  · refine ⟨l.set k u, _, _, _, _, by rw [List.set_append, if_pos h]; rfl, ?_, by simp⟩
    rw [hs]
    rw [List.getElem_append_left h] at hu
    exact fun e => crc_set_ne l k u h (fun e => hu e.symm) e.symm
  · have hk4 : k < l.length + 4 := by simpa [length_sumBytes] using hk
    rw [List.getElem_append_right (by omega)] at hu
    rcases (show k - l.length = 0 ∨ k - l.length = 1 ∨ k - l.length = 2 ∨ k - l.length = 3 by omega) with e | e | e | e
    all_goals
      refine ⟨l, _, _, _, _, by rw [List.set_append, if_neg h, e]; rfl, ?_, rfl⟩
      intro h2
      rw [← hs] at h2
      have h3 := sumOf_inj h2
      simp only [e, sumBytes, List.getElem_cons_zero, List.getElem_cons_succ] at hu
      simp_all

/-- No message is longer than a datagram. -/
theorem fieldB_short (m : Msg) (f : Nat) (h1 : f ≠ 4096) (h2 : f ≠ 16384) : (fieldB m f).length ≤ 11 := by
  have h10 := numB_len (m.num f)
  have h11 := layIDB_len (m.tn, m.ts)
  unfold fieldB layF
  repeat' split
  all_goals first | omega | (simp; done) | simp_all
theorem fieldB_refs {m : Msg} (h : rightB m = true) : (fieldB m 4096).length ≤ 32 := by
  have h0 := right_refs h
  have h1 := numB_len m.refs.length
  have h2 := flat_len layIDB 11 m.refs layIDB_len
  unfold fieldB layF
  split
  · simp
  · simp only [show ¬ (4096 = 32) by decide, if_false, if_true, layIDsB, List.length_append]
    omega
theorem fieldB_list {m : Msg} (h : rightB m = true) : (fieldB m 16384).length ≤ 650 := by
  have h0 := right_list h
  have h1 := numB_len m.list.length
  have h2 := flat_len numB 10 m.list numB_len
  unfold fieldB layF
  split
  · simp
  · simp only [show ¬ (16384 = 32) by decide, show ¬ (16384 = 4096) by decide, if_false, if_true, layListB, List.length_append]
    omega
theorem flat_sum (g : Nat → List UInt8) (c : Nat → Nat) (h : ∀ f, (g f).length ≤ c f) : ∀ l : List Nat, (l.flatMap g).length ≤ (l.map c).sum
  | [] => by simp
  | x :: r => by
    have h1 := h x
    have h2 := flat_sum g c h r
    rw [List.flatMap_cons, List.length_append, List.map_cons, List.sum_cons]
    exact Nat.add_le_add h1 h2
def capF (f : Nat) : Nat := if f = 4096 then 32 else if f = 16384 then 650 else 11
theorem capF_sum : (flds.map capF).sum = 825 := by decide +kernel
theorem sum15 {m : Msg} (h : rightB m = true) : (flds.flatMap (fieldB m)).length ≤ 825 := by
  rw [← capF_sum]
  refine flat_sum _ capF (fun f => ?_) flds
  unfold capF
  split
  · rename_i e; rw [e]; exact fieldB_refs h
  · split
    · rename_i e; rw [e]; exact fieldB_list h
    · rename_i h1 h2; exact fieldB_short m f h1 h2
theorem body_short {m : Msg} (h : rightB m = true) : (bodyB m).length ≤ 1020 := by
  have h1 := sum15 h
  have h3 : (headB m).length = 3 := rfl
  rw [bodyB, List.length_append]
  omega

theorem own_row {w : World} {base : Nat} {e : TypeId} {v : Value} {n : Nat} {xs : List Value} (h : w.ownsRow base e 1 v n xs) (hn : 0 < n) :
    ∃ g cap cur, v = .slice (some ⟨g, 0, none⟩) n cap ∧ base ≤ g ∧ w.heap[g]? = some (.cells cur e (0, 0)) ∧ n ≤ cap ∧ cur.toList.take n = xs := by
  obtain ⟨_, ⟨rfl, h0⟩ | ⟨g, cap, cur, rfl, hb, hg, hn, hm, hs, ht⟩⟩ := h
  · omega
  · exact ⟨g, cap, cur, rfl, hb, hg, hn, by simpa using ht⟩

set_option maxRecDepth 20000 in
set_option maxHeartbeats 4000000 in
theorem wturned_no (m : Msg) (ro lo : Option Addr) (rc lc : Nat) (at' by' : Int) (w : World) (hr : IDs w ro m.refs) (hr0 : ro = none → rc = 0) (hrl : m.refs.length ≤ 8796093022208) (hl : Us w lo m.list) (hl0 : lo = none → lc = 0) (hll : m.list.length ≤ 17592186044416) (h : rightB m = false) :
    Calls Try.prog 5 #[m.v ro lo rc lc, .int .i64 at', .int .i64 by'] w fun e w' => e = .returned (.bool true) ∧ Below w.heap.size w w' := by
  have hbox := MBox.new w m ro lo rc lc
  go_enter Try.func5, Try.ntmps5
  go_wp2_with (first
    | (refine load_msg _ rfl (by rfl) _ rfl m ro lo rc lc hbox ?_)
    | (go_at_call 11; refine (copyOf_any m ro lo rc lc _ (hr.below ((Below.refl _ _).alloc (Nat.le_refl _) _)) hr0 hrl (hl.below ((Below.refl _ _).alloc (Nat.le_refl _) _)) hl0 hll).mono ?_; rintro e w1 ⟨ro1, lo1, rc1, lc1, rfl, hr1, hr01, hl1, hl01, hb1⟩)
    | (go_at_call 10; refine (encode_no m ro1 lo1 rc1 lc1 _ hr1 (by omega) hl1 (by omega) h).mono ?_; rintro e w2 ⟨rfl, hb2⟩)
    | (go_at_call 9; refine (wknown_any _).mono ?_; rintro e w3 ⟨rfl, hb3⟩))
  go_ret
  have hB1 := below_alloc hb1
  exact ⟨rfl, hB1.trans ((hb2.mono hB1.size).trans (hb3.mono (Nat.le_trans hB1.size hb2.size)))⟩

set_option maxRecDepth 20000 in
set_option maxHeartbeats 4000000 in
theorem wturned_ok (m : Msg) (ro lo : Option Addr) (rc lc : Nat) (at' by' : Int) (w : World) (hm : m.Ok) (hr : IDs w ro m.refs) (hr0 : ro = none → rc = 0) (hrl : m.refs.length ≤ 8796093022208) (hl : Us w lo m.list) (hl0 : lo = none → lc = 0) (hll : m.list.length ≤ 17592186044416) (h : rightB m = true) :
    Calls Try.prog 5 #[m.v ro lo rc lc, .int .i64 at', .int .i64 by'] w fun e w' => e = .returned (.bool true) ∧ Below w.heap.size w w' := by
  have hbox := MBox.new w m ro lo rc lc
  have hen := fun w ro lo rc lc h1 h2 => encode_ok m ro lo rc lc w hm h1 h2 h
  have hsh := body_short h
  clear h
  generalize bodyB m = l at *
  have hk := pickN_lt at' (l.length + 4) (by omega)
  have hd := pickN_lt by' 255 (by omega)
  have hne0 : ((l.length : Int) + 4 == 0) = false := beq_eq_false_iff_ne.2 (by omega)
  obtain ⟨i, hi, hz0, hz1, hz2⟩ := info_parts Try.infoByte
  go_enter Try.func5, Try.ntmps5
  go_wp2_with (first
    | (refine load_msg _ rfl (by rfl) _ rfl m ro lo rc lc hbox ?_)
    | (go_at_call 11; refine (copyOf_any m ro lo rc lc _ (hr.below ((Below.refl _ _).alloc (Nat.le_refl _) _)) hr0 hrl (hl.below ((Below.refl _ _).alloc (Nat.le_refl _) _)) hl0 hll).mono ?_; rintro e w1 ⟨ro1, lo1, rc1, lc1, rfl, hr1, hr01, hl1, hl01, hb1⟩)
    | (go_at_call 10; refine (hen _ ro1 lo1 rc1 lc1 hr1 hl1).mono ?_; rintro e w2 ⟨k2, hk2, rfl, hg2, hb2⟩; clear hen)
    | (go_at_call 9; refine (wknown_any _).mono ?_; rintro e w3 ⟨rfl, hb3⟩; have hg3 := (hb3.block _ (Array.getElem?_eq_some_iff.1 hg2).1).trans hg2)
    | (at_builtin; refine wpList_append_bs rfl _ _ 30 rfl w3.heap.size 5 i Try.underlying30 hi hz0 hz1 hz2 _ 0 [] rfl rfl (own_empty (heap_alloc_new w3 _) 1) _ rfl (l ++ sumBytes (crc l)) ((seal_bs hg3).below ((Below.refl _ _).alloc (Nat.le_refl _) _)) (by simp [length_sumBytes]; omega) (by simp) ?_; intro v4 w4 hown4 hk4 hmv4; rw [List.nil_append, show (l ++ sumBytes (crc l)).length = l.length + 4 by simp [length_sumBytes]] at hown4; obtain ⟨g4, cap4, cur4, rfl, hbg4, hg4, hn4, htk4⟩ := own_row hown4 (by omega))
    | (go_at_call 16; refine (pick_any at' (l.length + 4) (by omega) (by omega) _).mono ?_; rintro e w5 ⟨rfl, rfl⟩))
  generalize hK : pickN at' (l.length + 4) = k at *
  have HK : Hid _ := hK
  clear hK
  have hlen : (l ++ sumBytes (crc l)).length = l.length + 4 := by simp [length_sumBytes]
  have hkl : k < (l ++ sumBytes (crc l)).length := by omega
  have hcell : w4.cell? ⟨g4, k, none⟩ = some (.int .u8 ((l ++ sumBytes (crc l))[k].toNat : Int)) := by
    have h2 : (cur4.toList.take (l.length + 4))[k]? = some (bv (l ++ sumBytes (crc l))[k]) := by rw [htk4, List.getElem?_map, List.getElem?_eq_getElem hkl]; rfl
    rw [List.getElem?_take, if_pos (by omega)] at h2
    rw [cell_of_row w4 _ k _ _ _ hg4]
    simpa [bv] using h2
  have hfz := frozen_of_row w4 g4 k _ _ hg4
  have hbyte := (l ++ sumBytes (crc l))[k].toNat_lt
  generalize hC : (l ++ sumBytes (crc l))[k] = c at *
  obtain ⟨u, hu, hne⟩ := turn_byte c (pickN by' 255) hd
  obtain ⟨mm, x0, x1, x2, x3, hset, hbad, hml⟩ := turned_sum l k u hkl (by rw [hC]; exact hne)
  have HS : Hid _ := hset
  have HB : Hid _ := hbad
  have HL : Hid _ := hml
  have HT : Hid _ := htk4
  have HG : Hid (w4.heap[g4]? = some (.cells cur4 5 (0, 0))) := hg4
  have hbase : Below w3.heap.size (w3.alloc (.cells #[] 5)) w4 := hk4.below (by simp) (fun j hj e => by simp [Act.eval, Value.ownBlock] at e; omega)
  have hB1 := below_alloc hb1
  have hB4 : Below w.heap.size w w4 := hB1.trans ((hb2.mono hB1.size).trans ((hb3.mono (Nat.le_trans hB1.size hb2.size)).trans ((((Below.refl _ _).alloc (Nat.le_refl _) _).trans hbase).mono (Nat.le_trans hB1.size (Nat.le_trans hb2.size hb3.size)))))
  have hgw : w.heap.size ≤ g4 := Nat.le_trans hB1.size (Nat.le_trans hb2.size (Nat.le_trans hb3.size hbg4))
  clear hC hset hbad hml hne hkl htk4 hg4 hk4 hmv4 hown4 hbase hb1 hb2 hb3 hB1 hg2 hg3 hr1 hl1 hr01 hl01 hbox hr hl hr0 hl0 hbg4 hlen hd HK hi hz0 hz1 hz2 hk2
  have hk1 : (0 : Int) ≤ (k : Int) := by omega
  have hk2 : (k : Int) < (l.length : Int) + 4 := by omega
  go_region_with (go_at_call 16; refine (pick_any by' 255 (by omega) (by omega) _).mono ?_; rintro e w' ⟨rfl, rfl⟩)
  all_goals
    have hgW : (w4.setCell ⟨g4, k, none⟩ (.int .u8 (u.toNat : Int))).drew.heap[g4]? = some (.cells (cur4.setIfInBounds k (.int .u8 (u.toNat : Int))) 5 (0, 0)) := by
      show (w4.setCell ⟨g4, k, none⟩ (.int .u8 (u.toNat : Int))).heap[g4]? = _
      rw [heap_setCell_same w4 g4 k _ _ _ HG.out]
    have hbW : Below w.heap.size w (w4.setCell ⟨g4, k, none⟩ (.int .u8 (u.toNat : Int))).drew := (hB4.setCell hgw _).drew
    generalize (w4.setCell ⟨g4, k, none⟩ (.int .u8 (u.toNat : Int))).drew = W at *
    have hBs : Bs W (.slice (some ⟨g4, 0, none⟩) (l.length + 4) cap4) (mm ++ [x0, x1, x2, x3]) := by
      have e : l.length + 4 = (mm ++ [x0, x1, x2, x3]).length := by have := HL.out; simp [this]
      have ht : (cur4.setIfInBounds k (.int .u8 (u.toNat : Int))).toList.take (l.length + 4) = (mm ++ [x0, x1, x2, x3]).map bv := by
        rw [Array.toList_setIfInBounds, List.take_set, HT.out, ← HS.out, List.map_set]
        rfl
      rw [e] at ht hn4 ⊢
      exact Bs.ofBlock hgW ht hn4
    have hml : mm.length ≤ 140737488355000 := by have := HL.out; omega
    have hml2 : (mm ++ [x0, x1, x2, x3]).length ≤ 1024 := by have := HL.out; simp [this]; omega
    clear hgW hu hcell hfz HS HG HL HT hB4
    go_wp2_with (first
      | (go_at_call 13; refine (decode_bad _ (mm ++ [x0, x1, x2, x3]) 23 _ hBs hml2 rfl (fun w' hb' => unseal_bad _ mm x0 x1 x2 x3 w' (hBs.below hb') hml HB.out)).mono ?_; rintro e w6 ⟨rfl, hb6⟩)
      | (refine store_msg _ _ rfl rfl w6.heap.size rfl zeroM none none 0 0 rfl (by simp) (there_row (cs := zeroCells) (heap_alloc_new w6 _) (Nat.le_refl 19)) ?_; intro w7 hm7 hk7 hsz7))
    go_ret
    exact ⟨rfl, hbW.trans ((hb6.mono hbW.size).trans (((Below.refl _ _).alloc (Nat.le_trans hbW.size hb6.size) _).trans (hk7.below (by simp; exact Nat.le_succ_of_le (Nat.le_trans hbW.size hb6.size)) (fun j hj e => by have := hbW.size; have := hb6.size; omega))))⟩

theorem wturned_any (m : Msg) (ro lo : Option Addr) (rc lc : Nat) (at' by' : Int) (w : World) (hm : m.Ok) (hr : IDs w ro m.refs) (hr0 : ro = none → rc = 0) (hrl : m.refs.length ≤ 8796093022208) (hl : Us w lo m.list) (hl0 : lo = none → lc = 0) (hll : m.list.length ≤ 17592186044416) :
    Calls Try.prog 5 #[m.v ro lo rc lc, .int .i64 at', .int .i64 by'] w fun e w' => e = .returned (.bool true) ∧ Below w.heap.size w w' := by
  cases h : rightB m with
  | false => exact wturned_no m ro lo rc lc at' by' w hr hr0 hrl hl hl0 hll h
  | true => exact wturned_ok m ro lo rc lc at' by' w hm hr hr0 hrl hl hl0 hll h

end Go.Proofs.Ytmnnpbijifoagab
