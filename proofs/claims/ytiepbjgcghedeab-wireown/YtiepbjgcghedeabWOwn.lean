/- WireOwn: the walk. -/
import Derived.Test.YtiepbjgcghedeabWalkDP
import Derived.Test.YtiepbjgcghedeabWOwnM
import Derived.Deep.CutRange
import Derived.Deep.CutBlock
namespace Go.Proofs.Ytiepbjgcghedeab
open Go.RowKit

set_option maxRecDepth 40000 in
set_option maxHeartbeats 400000 in
theorem wireOwn_no (m : Msg) (ro lo : Option Addr) (rc lc : Nat) (w : World) (hm : m.Ok) (hr : IDs w ro m.refs) (hrl : m.refs.length ≤ 8796093022208) (hl : Us w lo m.list) (hll : m.list.length ≤ 17592186044416) (h : rightB m = false) :
    Calls Try.prog 5 #[m.v ro lo rc lc] w fun e w' => e = .returned (.bool true) ∧ Below w.heap.size w w' := by
  have hbox := MBox.new w m ro lo rc lc
  have hb0 : Below w.heap.size w (w.alloc (.cells #[.int .i64 m.kind, .int .i64 m.frm, .int .i64 m.to, .int .u64 (m.call : Int), .int .u64 (m.floor : Int), .int .i64 m.op, .int .i64 m.fld, .int .i64 m.item,
    .int .i64 m.tn, .int .u64 (m.ts : Int), .slice ro m.refs.length rc, .int .u64 (m.val : Int), .int .i64 m.code, .int .u64 (m.seq : Int), .int .i64 m.vou, .int .u64 (m.at_ : Int), .int .i64 m.dist, .int .u64 (m.stamp : Int), .slice lo m.list.length lc] 28)) := (Below.refl _ _).alloc (Nat.le_refl _) _
  have hrn := rencode_no m ro lo rc lc _ hm (hr.below hb0) (by omega) (hl.below hb0) (by omega) h
  go_enter Try.func5, Try.ntmps5
  go_wp2_with (first
    | (refine load_msg _ rfl (by rfl) _ rfl m ro lo rc lc hbox ?_)
    | (go_at_call 14; refine hrn.mono ?_; clear hrn; rintro e w1 ⟨rfl, hb1⟩; have hB1 := below_alloc hb1)
    | (go_at_call 7; refine (wknown_any _).mono ?_; rintro e w2 ⟨rfl, hb2⟩))
  go_ret
  exact ⟨rfl, hB1.trans (hb2.mono hB1.size)⟩

theorem rEnd_alls (L : List UInt8) : rEnd L L.length 0 = 0 := by unfold rEnd; rw [if_neg (by omega)]

set_option maxRecDepth 40000 in
set_option maxHeartbeats 400000 in
theorem wireOwn_ok (m : Msg) (ro lo : Option Addr) (rc lc : Nat) (w : World) (hm : m.Ok) (hr : IDs w ro m.refs) (hl : Us w lo m.list) (h : rightB m = true) :
    Calls Try.prog 5 #[m.v ro lo rc lc] w fun e w' => e = .returned (.bool true) ∧ Below w.heap.size w w' := by
  have hbox := MBox.new w m ro lo rc lc
  have hb0 : Below w.heap.size w (w.alloc (.cells #[.int .i64 m.kind, .int .i64 m.frm, .int .i64 m.to, .int .u64 (m.call : Int), .int .u64 (m.floor : Int), .int .i64 m.op, .int .i64 m.fld, .int .i64 m.item,
    .int .i64 m.tn, .int .u64 (m.ts : Int), .slice ro m.refs.length rc, .int .u64 (m.val : Int), .int .i64 m.code, .int .u64 (m.seq : Int), .int .i64 m.vou, .int .u64 (m.at_ : Int), .int .i64 m.dist, .int .u64 (m.stamp : Int), .slice lo m.list.length lc] 28)) := (Below.refl _ _).alloc (Nat.le_refl _) _
  have hall := back_all hm h
  have hsh := body_short h
  have hrf := right_refs h
  have hls := right_list h
  have hrn := rencode_own m ro lo rc lc _ hm (hr.below hb0) (hl.below hb0) h
  have hdec := fun v w hv => decode_ok v (bodyB m) _ _ _ _ w hv (by omega) (sumOf_sumBytes _ (crc_lt (bodyB m))) (by rw [hall]; exact rEnd_alls _) (by rw [hall]; exact h)
  rw [hall] at hdec
  have hlen1 : 0 < (bodyB m ++ sumBytes (crc (bodyB m))).length := by simp [length_sumBytes]
  have hlen2 : (bodyB m ++ sumBytes (crc (bodyB m))).length ≤ 1024 := by simp [length_sumBytes]; omega
  clear hall h
  generalize bodyB m = L at *
  have hbs0 := fun w1 v1 g1 (h : World.ownsRow w1 g1 5 1 v1 (L ++ sumBytes (crc L)).length ((L ++ sumBytes (crc L)).map bv)) => Bs.ofOwns h
  generalize (L ++ sumBytes (crc L)).length = N at *
  have hB0 := hbox.mat
  go_enter Try.func5, Try.ntmps5
  go_upto_block 0 with (first
    | (refine load_msg _ rfl (by rfl) _ rfl m ro lo rc lc hbox ?_)
    | (go_at_call 14; refine hrn.mono ?_; clear hrn; rintro e w1 ⟨v1, g1, hg1, rfl, ho1, hb1⟩; have hB1 := below_alloc hb1; have hm1 := hB0.below hb1 hB0.lt; clear hB0; have hbs1 := hbs0 _ _ _ ho1; clear hbs0; obtain ⟨kb, cap, hve, hcap, hkg, hklt, hwt⟩ := own_wt ho1 hlen1; subst hve; have hkb : w.heap.size + 1 ≤ kb := by simp at hg1; omega)
    | (go_at_call 11; refine (hdec _ w1 hbs1).mono ?_; rintro e w2 ⟨ro2, lo2, rc2, lc2, rfl, hri2, hru2, hb2⟩; have hm2 := hm1.below hb2 hm1.lt; clear hm1)
    | (refine store_msg _ _ rfl rfl w2.heap.size rfl m ro2 lo2 rc2 lc2 rfl (by simp) (there_row (cs := zeroCells) (heap_alloc_new w2 _) (Nat.le_refl 19)) ?_; intro w3 hx3 hk3 hsz3; simp at hsz3; have q3 : Below w2.heap.size w2 w3 := ((Below.refl _ _).alloc (Nat.le_refl _) _).trans (hk3.below (by simp) (fun i hi e => by omega)); have hm3 := hm2.below q3 hm2.lt; clear hm2; have hbs3 := (hbs1.below hb2).below q3)
    | (go_at_call 11; refine (hdec _ w3 hbs3).mono ?_; rintro e w4 ⟨ro4, lo4, rc4, lc4, rfl, hri4, hru4, hb4⟩; have hm4 := hm3.below hb4 hm3.lt; have hx4 := hx3.below hb4 hx3.lt; clear hm3 hx3)
    | (refine store_msg _ _ rfl rfl w4.heap.size rfl m ro4 lo4 rc4 lc4 rfl (by simp) (there_row (cs := zeroCells) (heap_alloc_new w4 _) (Nat.le_refl 19)) ?_; intro w5 hy5 hk5 hsz5; simp at hsz5; have q5 : Below w4.heap.size w4 w5 := ((Below.refl _ _).alloc (Nat.le_refl _) _).trans (hk5.below (by simp) (fun i hi e => by omega)); have hm5 := hm4.below q5 hm4.lt; have hx5 := hx4.below q5 hx4.lt; clear hm4 hx4))
  have hs1 := hB1.size
  have hs2 := hb2.size
  have hs4 := hb4.size
  have hx2r := hri2.wt
  have hx2l := hru2.wt
  have hoi : OI w w5 w.heap.size w2.heap.size w4.heap.size kb N (w3.heap.size + 1) m ro lo ro2 lo2 ro4 lo4 rc lc rc2 lc2 rc4 lc4 := by
    refine ⟨hm5, hx5, hy5, hri4.keep (kept_of_below q5 (fun _ => False)) (fun _ _ e => e), hru4.keep (kept_of_below q5 (fun _ => False)) (fun _ _ e => e), fun k e => ((((hx2r k e).2.2).below q3).below hb4).below q5, fun k e => ((((hx2l k e).2.2).below q3).below hb4).below q5, (((hwt.below hb2).below q3).below hb4).below q5, ?_⟩
    exact hB1.trans ((hb2.mono (by omega)).trans ((q3.mono (by omega)).trans ((hb4.mono (by omega)).trans (q5.mono (by omega)))))
  have hsr : 0 < m.refs.length → ∃ k, ro2 = some ⟨k, 0, none⟩ ∧ w1.heap.size + 1 ≤ k ∧ k < w2.heap.size := fun h0 => by
    obtain ⟨k, hk⟩ := hri2.some h0
    exact ⟨k, hk, (hx2r k hk).1, (hx2r k hk).2.1⟩
  have hsl : 0 < m.list.length → ∃ k, lo2 = some ⟨k, 0, none⟩ ∧ w1.heap.size + 1 ≤ k ∧ k < w2.heap.size := fun h0 => by
    obtain ⟨k, hk⟩ := hru2.some h0
    exact ⟨k, hk, (hx2l k hk).1, (hx2l k hk).2.1⟩
  have hC3 : w3.heap.size = w2.heap.size + 1 := hsz3
  have HC3 : Hid (w3.heap.size = w2.heap.size + 1) := hC3
  have hC4 : w2.heap.size + 1 ≤ w4.heap.size := by omega
  clear hC3 hm5 hx5 hy5 hri4 hru4 hri2 hru2 hx2r hx2l hwt hdec hbs1 hbs3 hk3 hk5 hsz3 hsz5 q3 q5 hb4 hb2 ho1 hbox hb0 hg1 hb1 hB1
  go_cut [9] from 30 to 41 (fun _ wc => OI w wc w.heap.size w2.heap.size w4.heap.size kb N (w3.heap.size + 1) m ro lo ro2 lo2 ro4 lo4 rc lc rc2 lc2 rc4 lc4)
  case first =>
    go_wp2
    go_loopw [9] (fun i wr => ∃ j : Nat, j ≤ m.refs.length ∧ i = .int .i64 (j : Int) ∧ OI w wr w.heap.size w2.heap.size w4.heap.size kb N (w3.heap.size + 1) m ro lo ro2 lo2 ro4 lo4 rc lc rc2 lc2 rc4 lc4) (fun i _ => m.refs.length - (intOf i).toNat)
    case atStart => exact ⟨0, Nat.zero_le _, rfl, hoi⟩
    case round =>
      obtain ⟨j, hj, rfl, hr1⟩ := hrel
      clear hoi
      have hc10 : wr.cell? ⟨w2.heap.size, 10, none⟩ = some (.slice ro2 m.refs.length rc2) := hr1.mx.cells 10 _ rfl
      by_cases hlt : j < m.refs.length
      · obtain ⟨k, rfl, hk1, hk2⟩ := hsr (by omega)
        have ht := (hr1.xr k rfl).there (j * 2) 2 (by omega)
        have hlt2 : (j : Int) < (m.refs.length : Int) := by omega
        go_wp2_with (refine store_id _ _ rfl rfl k _ rfl 64 7 rfl ht ?_)
        refine ⟨⟨j + 1, by omega, by go_num, OI.sets k (by omega) (by omega) (by omega) (by rw [HC3.out]; omega) (by omega) _ _ _ hr1⟩, ?_⟩
        simp [intOf]
        omega
      · have hlt2 : ¬ (j : Int) < (m.refs.length : Int) := by omega
        go_wp2
        go_meet
        exact hr1
  case rest =>
    have hoi : OI w wc w.heap.size w2.heap.size w4.heap.size kb N (w3.heap.size + 1) m ro lo ro2 lo2 ro4 lo4 rc lc rc2 lc2 rc4 lc4 := hcut
    clear hcut
    go_upto_block 2 with fail
    go_cut [10] from 42 to 52 (fun _ wc => OI w wc w.heap.size w2.heap.size w4.heap.size kb N (w3.heap.size + 1) m ro lo ro2 lo2 ro4 lo4 rc lc rc2 lc2 rc4 lc4)
    case first =>
      go_wp2
      go_loopw [10] (fun i wr => ∃ j : Nat, j ≤ m.list.length ∧ i = .int .i64 (j : Int) ∧ OI w wr w.heap.size w2.heap.size w4.heap.size kb N (w3.heap.size + 1) m ro lo ro2 lo2 ro4 lo4 rc lc rc2 lc2 rc4 lc4) (fun i _ => m.list.length - (intOf i).toNat)
      case atStart => exact ⟨0, Nat.zero_le _, rfl, hoi⟩
      case round =>
        obtain ⟨j, hj, rfl, hr1⟩ := hrel
        clear hoi
        have hc18 : wr.cell? ⟨w2.heap.size, 18, none⟩ = some (.slice lo2 m.list.length lc2) := hr1.mx.cells 18 _ rfl
        by_cases hlt : j < m.list.length
        · obtain ⟨k, rfl, hk1, hk2⟩ := hsl (by omega)
          obtain ⟨⟨u, hu⟩, hfz⟩ := (hr1.xl k rfl).at j hlt
          have hlt2 : (j : Int) < (m.list.length : Int) := by omega
          go_wp2
          refine ⟨⟨j + 1, by omega, by go_num, hr1.set k j _ (by omega) (by omega) (by omega) (by rw [HC3.out]; omega) (by omega)⟩, ?_⟩
          simp [intOf]
          omega
        · have hlt2 : ¬ (j : Int) < (m.list.length : Int) := by omega
          go_wp2
          go_meet
          exact hr1
    case rest =>
      have hoi2 : OI w wc w.heap.size w2.heap.size w4.heap.size kb N (w3.heap.size + 1) m ro lo ro2 lo2 ro4 lo4 rc lc rc2 lc2 rc4 lc4 := hcut
      clear hcut hoi
      go_upto_block 4 with fail
      go_cut [11] from 53 to 61 (fun _ wc => OI w wc w.heap.size w2.heap.size w4.heap.size kb N (w3.heap.size + 1) m ro lo ro2 lo2 ro4 lo4 rc lc rc2 lc2 rc4 lc4)
      case first =>
        go_wp2
        go_loopw [11] (fun i wr => ∃ j : Nat, j ≤ N ∧ i = .int .i64 (j : Int) ∧ OI w wr w.heap.size w2.heap.size w4.heap.size kb N (w3.heap.size + 1) m ro lo ro2 lo2 ro4 lo4 rc lc rc2 lc2 rc4 lc4) (fun i _ => N - (intOf i).toNat)
        case atStart => exact ⟨0, Nat.zero_le _, rfl, hoi2⟩
        case round =>
          obtain ⟨j, hj, rfl, hr1⟩ := hrel
          clear hoi2
          by_cases hlt : j < N
          · obtain ⟨⟨u, hu⟩, hfz⟩ := hr1.bb.at j hlt
            have hlt2 : (j : Int) < (N : Int) := by omega
            go_wp2
            refine ⟨⟨j + 1, by omega, by go_num, hr1.set kb j _ (by omega) (by omega) (by omega) (by rw [HC3.out]; omega) (by omega)⟩, ?_⟩
            simp [intOf]
            omega
          · have hlt2 : ¬ (j : Int) < (N : Int) := by omega
            go_wp2
            go_meet
            exact hr1
      case rest =>
        have hoi3 : OI w wc w.heap.size w2.heap.size w4.heap.size kb N (w3.heap.size + 1) m ro lo ro2 lo2 ro4 lo4 rc lc rc2 lc2 rc4 lc4 := hcut
        clear hcut hoi2
        have hB3 := hoi3.bel
        go_wp2_with (first
          | (refine load_mat _ rfl (by rfl) _ rfl m ro4 lo4 rc4 lc4 hoi6.my ?_)
          | (refine load_mat _ rfl (by rfl) _ rfl m ro lo rc lc hoi6.mb ?_)
          | (go_at_call 7; refine (wknown_any _).mono ?_; rintro e w6 ⟨rfl, hb6⟩; have hoi6 := hoi3.below hb6; clear hoi3)
          | (go_at_call 12; refine (same_any m ro4 lo4 ro lo rc4 lc4 rc lc w6 hoi6.yr.ids (hr.below hoi6.bel) hoi6.yl.us (hl.below hoi6.bel) (by omega) (by omega)).mono ?_; rintro e w7 ⟨rfl, hb7⟩))
        go_ret
        exact ⟨rfl, hoi6.bel.trans (hb7.mono hoi6.bel.size)⟩

theorem wireOwn_any (m : Msg) (ro lo : Option Addr) (rc lc : Nat) (w : World) (hm : m.Ok) (hr : IDs w ro m.refs) (hrl : m.refs.length ≤ 8796093022208) (hl : Us w lo m.list) (hll : m.list.length ≤ 17592186044416) :
    Calls Try.prog 5 #[m.v ro lo rc lc] w fun e w' => e = .returned (.bool true) ∧ Below w.heap.size w w' := by
  cases h : rightB m with
  | false => exact wireOwn_no m ro lo rc lc w hm hr hrl hl hll h
  | true => exact wireOwn_ok m ro lo rc lc w hm hr hl h

end Go.Proofs.Ytiepbjgcghedeab
