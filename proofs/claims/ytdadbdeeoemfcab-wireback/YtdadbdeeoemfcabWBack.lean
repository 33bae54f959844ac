/- WireBack: the walk. -/
import Derived.Test.YtdadbdeeoemfcabWDecOk
import Derived.Test.YtdadbdeeoemfcabWSameM
import Derived.Test.YtdadbdeeoemfcabWKnow
import Derived.Test.YtdadbdeeoemfcabWBackM
import Derived.Test.YtdadbdeeoemfcabWShort
import Derived.Test.YtdadbdeeoemfcabWCopyWalk
namespace Go.Proofs.Ytdadbdeeoemfcab
open Go.RowKit

theorem rEnd_all (L : List UInt8) : rEnd L L.length 0 = 0 := by unfold rEnd; rw [if_neg (by omega)]

set_option maxRecDepth 40000 in
set_option maxHeartbeats 8000000 in
theorem wireBack_no (m : Msg) (ro lo : Option Addr) (rc lc : Nat) (w : World) (hr : IDs w ro m.refs) (hr0 : ro = none → rc = 0) (hrl : m.refs.length ≤ 8796093022208) (hl : Us w lo m.list) (hl0 : lo = none → lc = 0) (hll : m.list.length ≤ 17592186044416) (h : rightB m = false) :
    Calls Try.prog 3 #[m.v ro lo rc lc] w fun e w' => e = .returned (.bool true) ∧ Below w.heap.size w w' := by
  have hbox := MBox.new w m ro lo rc lc
  go_enter Try.func3, Try.ntmps3
  go_wp2_with (first
    | (refine load_mat _ rfl (by rfl) _ rfl m ro lo rc lc hm1 ?_)
    | (refine load_mat _ rfl (by rfl) _ rfl m ro lo rc lc hm3 ?_)
    | (go_at_call 7; refine (wknown_any _).mono ?_; rintro e w1 ⟨rfl, hb1⟩; have hm1 := hbox.mat.below hb1 hbox.mat.lt; have hB1 := below_alloc hb1; have hr1 := hr.below hB1; have hl1 := hl.below hB1)
    | (go_at_call 9; refine (copyOf_any m ro lo rc lc w1 hr1 hr0 hrl hl1 hl0 hll).mono ?_; rintro e w2 ⟨ro2, lo2, rc2, lc2, rfl, hr2, hr02, hl2, hl02, hb2⟩; have hm2 := hm1.below hb2 hm1.lt; clear hm1)
    | (go_at_call 8; refine (encode_no m ro2 lo2 rc2 lc2 w2 hr2 (by omega) hl2 (by omega) h).mono ?_; rintro e w3 ⟨rfl, hb3⟩; have hm3 := hm2.below hb3 hm2.lt; clear hm2; have hB3 := hB1.trans ((hb2.mono hB1.size).trans (hb3.mono (Nat.le_trans hB1.size hb2.size))); have hrt := right_any m ro lo rc lc w3 (hr.below hB3) (by omega) (hl.below hB3) (by omega); rw [h] at hrt)
    | (go_at_call 10; refine hrt.mono ?_; rintro e w4 ⟨rfl, hb4⟩))
  go_ret
  exact ⟨rfl, hB3.trans (hb4.mono hB3.size)⟩

set_option maxRecDepth 40000 in
set_option maxHeartbeats 8000000 in
theorem wireBack_ok (m : Msg) (ro lo : Option Addr) (rc lc : Nat) (w : World) (hm : m.Ok) (hr : IDs w ro m.refs) (hr0 : ro = none → rc = 0) (hrl : m.refs.length ≤ 8796093022208) (hl : Us w lo m.list) (hl0 : lo = none → lc = 0) (hll : m.list.length ≤ 17592186044416) (h : rightB m = true) :
    Calls Try.prog 3 #[m.v ro lo rc lc] w fun e w' => e = .returned (.bool true) ∧ Below w.heap.size w w' := by
  have hbox := MBox.new w m ro lo rc lc
  have hall := back_all hm h
  have hsh := body_short h
  have hdec := fun v w hv => decode_ok v (bodyB m) _ _ _ _ w hv (by omega) (sumOf_sumBytes _ (crc_lt (bodyB m))) (by rw [hall]; exact rEnd_all _) (by rw [hall]; exact h)
  rw [hall] at hdec
  have hen := fun w ro lo rc lc h1 h2 => encode_ok m ro lo rc lc w hm h1 h2 h
  clear hall
  generalize bodyB m = L at *
  go_enter Try.func3, Try.ntmps3
  go_wp2_with (first
    | (refine load_mat _ rfl (by rfl) _ rfl m ro lo rc lc hm1 ?_)
    | (refine load_mat _ rfl (by rfl) _ rfl m ro lo rc lc hm5 ?_)
    | (refine load_mat _ rfl (by rfl) _ rfl m ro4 lo4 rc4 lc4 hx6 ?_)
    | (refine load_mat _ rfl (by rfl) _ rfl m ro lo rc lc hm6 ?_)
    | (go_at_call 7; refine (wknown_any _).mono ?_; rintro e w1 ⟨rfl, hb1⟩; have hm1 := hbox.mat.below hb1 hbox.mat.lt; have hB1 := below_alloc hb1; have hr1 := hr.below hB1; have hl1 := hl.below hB1)
    | (go_at_call 9; refine (copyOf_any m ro lo rc lc w1 hr1 hr0 hrl hl1 hl0 hll).mono ?_; rintro e w2 ⟨ro2, lo2, rc2, lc2, rfl, hr2, hr02, hl2, hl02, hb2⟩; have hm2 := hm1.below hb2 hm1.lt; clear hm1)
    | (go_at_call 8; refine (hen w2 ro2 lo2 rc2 lc2 hr2 hl2).mono ?_; clear hen; rintro e w3 ⟨k, hk, rfl, hg3, hb3⟩; have hbs := seal_bs hg3; clear hg3; have hm3 := hm2.below hb3 hm2.lt; clear hm2; have hB3 := hB1.trans ((hb2.mono hB1.size).trans (hb3.mono (Nat.le_trans hB1.size hb2.size))))
    | (go_at_call 11; refine (hdec _ w3 hbs).mono ?_; clear hdec; rintro e w4 ⟨ro4, lo4, rc4, lc4, rfl, hri, hru, hb4⟩; have hm4 := hm3.below hb4 hm3.lt; clear hm3; have hids := hri.ids; have hus := hru.us; clear hri hru hbs)
    | (refine store_msg _ _ rfl rfl w4.heap.size rfl m ro4 lo4 rc4 lc4 rfl (by simp) (there_row (cs := zeroCells) (heap_alloc_new w4 _) (Nat.le_refl 19)) ?_; intro w5 hx5 hk5 hsz5; simp at hsz5; have q5 : Below w4.heap.size w4 w5 := ((Below.refl _ _).alloc (Nat.le_refl _) _).trans (hk5.below (by simp) (fun i hi e => by omega)); have hm5 := hm4.below q5 hm4.lt; clear hm4; have hB5 := hB3.trans ((hb4.mono hB3.size).trans (q5.mono (Nat.le_trans hB3.size hb4.size))); have hrt := right_any m ro lo rc lc w5 (hr.below hB5) (by omega) (hl.below hB5) (by omega); rw [h] at hrt)
    | (go_at_call 10; refine hrt.mono ?_; rintro e w6 ⟨rfl, hb6⟩; have hm6 := hm5.below hb6 hm5.lt; have hx6 := hx5.below hb6 hx5.lt; clear hm5 hx5; have hB6 := hB5.trans (hb6.mono hB5.size))
    | (go_at_call 12; refine (same_any m ro4 lo4 ro lo rc4 lc4 rc lc w6 ((hids.below q5).below hb6) (hr.below hB6) ((hus.below q5).below hb6) (hl.below hB6) (by omega) (by omega)).mono ?_; rintro e w7 ⟨rfl, hb7⟩))
  go_ret
  exact ⟨congrArg (fun x => Ending.returned (.bool x)) (decide_eq_true (by omega)), hB6.trans (hb7.mono hB6.size)⟩

theorem wireBack_any (m : Msg) (ro lo : Option Addr) (rc lc : Nat) (w : World) (hm : m.Ok) (hr : IDs w ro m.refs) (hr0 : ro = none → rc = 0) (hrl : m.refs.length ≤ 8796093022208) (hl : Us w lo m.list) (hl0 : lo = none → lc = 0) (hll : m.list.length ≤ 17592186044416) :
    Calls Try.prog 3 #[m.v ro lo rc lc] w fun e w' => e = .returned (.bool true) ∧ Below w.heap.size w w' := by
  cases h : rightB m with
  | false => exact wireBack_no m ro lo rc lc w hr hr0 hrl hl hl0 hll h
  | true => exact wireBack_ok m ro lo rc lc w hm hr hr0 hrl hl hl0 hll h

end Go.Proofs.Ytdadbdeeoemfcab
