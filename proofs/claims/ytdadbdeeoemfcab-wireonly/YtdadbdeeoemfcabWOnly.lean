/- WireOnly: the walk. -/
import Derived.Test.YtdadbdeeoemfcabWDecAll
import Derived.Test.YtdadbdeeoemfcabWSameM
import Derived.Test.YtdadbdeeoemfcabWKnow
import Derived.Test.YtdadbdeeoemfcabWOnlyM
namespace Go.Proofs.Ytdadbdeeoemfcab
open Go.RowKit

theorem zero_ids (w : World) : IDs w none zeroM.refs := fun h => absurd rfl h
theorem zero_us (w : World) : Us w none zeroM.list := fun h => absurd rfl h

set_option maxRecDepth 40000 in
set_option maxHeartbeats 8000000 in
theorem wireOnly_wrong (v : Value) (l : List UInt8) (w : World) (hv : Bs w v l) (hl : l.length ≤ 140737488355000) (he : decN l ≠ 0) :
    Calls Try.prog 4 #[v, .bool false] w fun e w' => e = .returned (.bool true) ∧ Below w.heap.size w w' := by
  have hdec := fun w h => decode_wrong v l w h (by omega) he
  have t2 : ((decN l : Int) != 0) = true := by rw [bne_iff_ne]; omega
  generalize decN l = E at *
  obtain ⟨ao, cap, rfl, hc, hx⟩ := id hv
  clear hx hc
  go_enter Try.func4, Try.ntmps4
  go_wp2_with (first
    | (refine load_mat _ rfl (by rfl) _ rfl zeroM none none 0 0 hm3 ?_)
    | (go_at_call 7; refine (wknown_any _).mono ?_; rintro e w1 ⟨rfl, hb1⟩)
    | (go_at_call 11; refine (hdec w1 (hv.below hb1)).mono ?_; clear hdec; rintro e w2 ⟨rfl, hb2⟩)
    | (refine store_msg _ _ rfl rfl w2.heap.size rfl zeroM none none 0 0 rfl (by simp) (there_row (cs := zeroCells) (heap_alloc_new w2 _) (Nat.le_refl 19)) ?_; intro w3 hm3 hk3 hsz3; simp at hsz3; have q3 : Below w2.heap.size w2 w3 := ((Below.refl _ _).alloc (Nat.le_refl _) _).trans (hk3.below (by simp) (fun i hi e => by omega)))
    | (go_at_call 12; refine (same_any zeroM none none none none 0 0 0 0 w3 (zero_ids _) (zero_ids _) (zero_us _) (zero_us _) (by simp [zeroM]) (by simp [zeroM])).mono ?_; rintro e w4 ⟨rfl, hb4⟩))
  go_ret
  have z1 := hb1.size
  have z2 := hb2.size
  exact ⟨rfl, (hb1.trans (hb2.mono z1)).trans ((q3.mono (by omega)).trans (hb4.mono (by omega)))⟩

set_option maxRecDepth 40000 in
set_option maxHeartbeats 8000000 in
theorem wireOnly_right (v : Value) (l : List UInt8) (w : World) (hv : Bs w v l) (he : decN l = 0) :
    Calls Try.prog 4 #[v, .bool false] w fun e w' => e = .returned (.bool true) ∧ Below w.heap.size w w' := by
  obtain ⟨h1, x0, x1, x2, x3, hsp, hs, h4, h5⟩ := decN_ok he
  have hbody := only_all h4 h5
  have hL : bodyB (rAll (bodyOf l) 0 0).1 ++ sumBytes (crc (bodyB (rAll (bodyOf l) 0 0).1)) = l := by
    rw [hbody, sum_back (crc_lt _) hs]; exact hsp.symm
  have hsm := rAll_sm (bodyOf l) 0 0
  have hdec := fun w h => decode_right v l w h he
  have hen := fun w ro lo rc lc h1 h2 => encode_ok (rAll (bodyOf l) 0 0).1 ro lo rc lc w hsm.ok h1 h2 h5
  have hrt := fun w ro lo rc lc h1 h2 => right_any (rAll (bodyOf l) 0 0).1 ro lo rc lc w h1 (by have := hsm.refs; omega) h2 (by have := hsm.list; omega)
  rw [h5] at hrt
  rw [hL] at hen
  have hlen : (bodyB (rAll (bodyOf l) 0 0).1).length + 4 = l.length := by
    have := congrArg List.length hL
    rw [List.length_append, length_sumBytes] at this
    exact this
  rw [hlen] at hen
  clear hsp hs h4 h5 hbody hL he hlen
  generalize (rAll (bodyOf l) 0 0).1 = m at *
  obtain ⟨ao, cap, rfl, hc, hx⟩ := id hv
  clear hx hc
  go_enter Try.func4, Try.ntmps4
  go_wp2_with (first
    | (refine load_mat _ rfl (by rfl) _ rfl m ro lo rc lc hm3 ?_)
    | (refine load_mat _ rfl (by rfl) _ rfl m ro lo rc lc hm4 ?_)
    | (go_at_call 7; refine (wknown_any _).mono ?_; rintro e w1 ⟨rfl, hb1⟩)
    | (go_at_call 11; refine (hdec w1 (hv.below hb1)).mono ?_; clear hdec; rintro e w2 ⟨ro, lo, rc, lc, rfl, hri, hru, hb2⟩; have hids := hri.ids; have hus := hru.us; clear hri hru)
    | (refine store_msg _ _ rfl rfl w2.heap.size rfl m ro lo rc lc rfl (by simp) (there_row (cs := zeroCells) (heap_alloc_new w2 _) (Nat.le_refl 19)) ?_; intro w3 hm3 hk3 hsz3; simp at hsz3; have q3 : Below w2.heap.size w2 w3 := ((Below.refl _ _).alloc (Nat.le_refl _) _).trans (hk3.below (by simp) (fun i hi e => by omega)))
    | (go_at_call 8; refine (hen w3 ro lo rc lc (hids.below q3) (hus.below q3)).mono ?_; clear hen; rintro e w4 ⟨k, hk, rfl, hg4, hb4⟩; have hm4 := hm3.below hb4 hm3.lt; clear hm3)
    | (go_at_call 10; refine (hrt w4 ro lo rc lc ((hids.below q3).below hb4) ((hus.below q3).below hb4)).mono ?_; clear hrt; rintro e w5 ⟨rfl, hb5⟩; have hB : Below w.heap.size w w5 := by { have z1 := hb1.size; have z2 := hb2.size; have z4 := hb4.size; exact ((hb1.trans (hb2.mono z1)).trans (q3.mono (by omega))).trans ((hb4.mono (by omega)).trans (hb5.mono (by omega))) }; have s1 := (Bs.ofBlock (cap := l.length) (l := l) ((hb5.block k (Array.getElem?_eq_some_iff.1 hg4).1).trans hg4) (List.take_of_length_le (by simp)) (Nat.le_refl _)).str (P := Try.prog) 30 9 5 Try.underlying30 Try.underlying5 Try.underlying9; have s2 := (hv.below hB).str (P := Try.prog) 30 9 5 Try.underlying30 Try.underlying5 Try.underlying9))
  go_ret
  exact ⟨rfl, hB⟩

end Go.Proofs.Ytdadbdeeoemfcab
