/- WireEncodes: the walk. -/
import Derived.Test.YtiepbjgcghedeaaREnc
import Derived.Test.YtiepbjgcghedeaaWKnow
import Derived.Test.YtiepbjgcghedeaaWCopyWalk
import Derived.Test.YtiepbjgcghedeaaWSameM
namespace Go.Proofs.Ytiepbjgcghedeaa
open Go.RowKit

set_option maxRecDepth 40000 in
set_option maxHeartbeats 8000000 in
theorem wireEncodes_no (m : Msg) (ro lo : Option Addr) (rc lc : Nat) (w : World) (hm : m.Ok) (hr : IDs w ro m.refs) (hr0 : ro = none → rc = 0) (hrl : m.refs.length ≤ 8796093022208) (hl : Us w lo m.list) (hl0 : lo = none → lc = 0) (hll : m.list.length ≤ 17592186044416) (h : rightB m = false) :
    Calls Try.prog 5 #[m.v ro lo rc lc] w fun e w' => e = .returned (.bool true) ∧ Below w.heap.size w w' := by
  have hbox := MBox.new w m ro lo rc lc
  have hb0 : Below w.heap.size w (w.alloc (.cells #[.int .i64 m.kind, .int .i64 m.frm, .int .i64 m.to, .int .u64 (m.call : Int), .int .u64 (m.floor : Int), .int .i64 m.op, .int .i64 m.fld, .int .i64 m.item,
    .int .i64 m.tn, .int .u64 (m.ts : Int), .slice ro m.refs.length rc, .int .u64 (m.val : Int), .int .i64 m.code, .int .u64 (m.seq : Int), .int .i64 m.vou, .int .u64 (m.at_ : Int), .int .i64 m.dist, .int .u64 (m.stamp : Int), .slice lo m.list.length lc] 28)) := (Below.refl _ _).alloc (Nat.le_refl _) _
  have hen := fun w ro lo rc lc h1 h2 => encode_no m ro lo rc lc w h1 (by omega) h2 (by omega) h
  have hrn := fun w ro lo rc lc h1 h2 => rencode_no m ro lo rc lc w hm h1 (by omega) h2 (by omega) h
  have hB0 := hbox.mat
  clear h hbox
  go_enter Try.func5, Try.ntmps5
  go_wp2_with (first
    | (refine load_mat _ rfl (by rfl) _ rfl m ro lo rc lc hB0 ?_)
    | (refine load_mat _ rfl (by rfl) _ rfl m ro1 lo1 rc1 lc1 hx2 ?_)
    | (refine load_mat _ rfl (by rfl) _ rfl m ro lo rc lc hm3 ?_)
    | (refine load_mat _ rfl (by rfl) _ rfl m ro1 lo1 rc1 lc1 hx5 ?_)
    | (refine load_mat _ rfl (by rfl) _ rfl m ro lo rc lc hm5 ?_)
    | (go_at_call 14; refine (copyOf_any m ro lo rc lc _ (hr.below hb0) hr0 hrl (hl.below hb0) hl0 hll).mono ?_; rintro e w1 ⟨ro1, lo1, rc1, lc1, rfl, hr1, hr01, hl1, hl01, hb1⟩; have hm1 := hB0.below hb1 hB0.lt; clear hB0; have hB1 := below_alloc hb1)
    | (refine store_msg _ _ rfl rfl w1.heap.size rfl m ro1 lo1 rc1 lc1 rfl (by simp) (there_row (cs := zeroCells) (heap_alloc_new w1 _) (Nat.le_refl 19)) ?_; intro w2 hx2 hk2 hsz2; simp at hsz2; have q2 : Below w1.heap.size w1 w2 := ((Below.refl _ _).alloc (Nat.le_refl _) _).trans (hk2.below (by simp) (fun i hi e => by omega)); have hm2 := hm1.below q2 hm1.lt; clear hm1; have hB2 := hB1.trans (q2.mono hB1.size))
    | (go_at_call 9; refine (hen w2 ro1 lo1 rc1 lc1 (hr1.below q2) (hl1.below q2)).mono ?_; clear hen; rintro e w3 ⟨rfl, hb3⟩; have hm3 := hm2.below hb3 hm2.lt; have hx3 := hx2.below hb3 hx2.lt; clear hm2 hx2; have hB3 := hB2.trans (hb3.mono hB2.size))
    | (go_at_call 16; refine (hrn w3 ro lo rc lc (hr.below hB3) (hl.below hB3)).mono ?_; clear hrn; rintro e w4 ⟨rfl, hb4⟩; have hm4 := hm3.below hb4 hm3.lt; have hx4 := hx3.below hb4 hx3.lt; clear hm3 hx3; have hB4 := hB3.trans (hb4.mono hB3.size))
    | (go_at_call 11; refine (wknown_any _).mono ?_; rintro e w5 ⟨rfl, hb5⟩; have hm5 := hm4.below hb5 hm4.lt; have hx5 := hx4.below hb5 hx4.lt; clear hm4 hx4; have hB5 := hB4.trans (hb5.mono hB4.size); have s1 := (Bs.nil w5).str (P := Try.prog) 29 9 5 Try.underlying29 Try.underlying5 Try.underlying9; have q5 : Below w1.heap.size w1 w5 := q2.trans ((hb3.mono (by have := q2.size; omega)).trans ((hb4.mono (by have := q2.size; have := hb3.size; omega)).trans (hb5.mono (by have := q2.size; have := hb3.size; have := hb4.size; omega)))))
    | (go_at_call 12; refine (same_any m ro1 lo1 ro lo rc1 lc1 rc lc w5 (hr1.below q5) (hr.below hB5) (hl1.below q5) (hl.below hB5) (by omega) (by omega)).mono ?_; rintro e w6 ⟨rfl, hb6⟩))
  go_ret
  exact ⟨rfl, hB5.trans (hb6.mono hB5.size)⟩

set_option maxRecDepth 40000 in
set_option maxHeartbeats 8000000 in
theorem wireEncodes_ok (m : Msg) (ro lo : Option Addr) (rc lc : Nat) (w : World) (hm : m.Ok) (hr : IDs w ro m.refs) (hr0 : ro = none → rc = 0) (hrl : m.refs.length ≤ 8796093022208) (hl : Us w lo m.list) (hl0 : lo = none → lc = 0) (hll : m.list.length ≤ 17592186044416) (h : rightB m = true) :
    Calls Try.prog 5 #[m.v ro lo rc lc] w fun e w' => e = .returned (.bool true) ∧ Below w.heap.size w w' := by
  have hbox := MBox.new w m ro lo rc lc
  have hb0 : Below w.heap.size w (w.alloc (.cells #[.int .i64 m.kind, .int .i64 m.frm, .int .i64 m.to, .int .u64 (m.call : Int), .int .u64 (m.floor : Int), .int .i64 m.op, .int .i64 m.fld, .int .i64 m.item,
    .int .i64 m.tn, .int .u64 (m.ts : Int), .slice ro m.refs.length rc, .int .u64 (m.val : Int), .int .i64 m.code, .int .u64 (m.seq : Int), .int .i64 m.vou, .int .u64 (m.at_ : Int), .int .i64 m.dist, .int .u64 (m.stamp : Int), .slice lo m.list.length lc] 28)) := (Below.refl _ _).alloc (Nat.le_refl _) _
  have hen := fun w ro lo rc lc h1 h2 => encode_ok m ro lo rc lc w hm h1 h2 h
  have hrn := fun w ro lo rc lc h1 h2 => rencode_ok m ro lo rc lc w hm h1 h2 h
  have hsh := body_len h
  have hB0 := hbox.mat
  clear h hbox
  go_enter Try.func5, Try.ntmps5
  go_wp2_with (first
    | (refine load_mat _ rfl (by rfl) _ rfl m ro lo rc lc hB0 ?_)
    | (refine load_mat _ rfl (by rfl) _ rfl m ro1 lo1 rc1 lc1 hx2 ?_)
    | (refine load_mat _ rfl (by rfl) _ rfl m ro lo rc lc hm3 ?_)
    | (refine load_mat _ rfl (by rfl) _ rfl m ro1 lo1 rc1 lc1 hx5 ?_)
    | (refine load_mat _ rfl (by rfl) _ rfl m ro lo rc lc hm5 ?_)
    | (go_at_call 14; refine (copyOf_any m ro lo rc lc _ (hr.below hb0) hr0 hrl (hl.below hb0) hl0 hll).mono ?_; rintro e w1 ⟨ro1, lo1, rc1, lc1, rfl, hr1, hr01, hl1, hl01, hb1⟩; have hm1 := hB0.below hb1 hB0.lt; clear hB0; have hB1 := below_alloc hb1)
    | (refine store_msg _ _ rfl rfl w1.heap.size rfl m ro1 lo1 rc1 lc1 rfl (by simp) (there_row (cs := zeroCells) (heap_alloc_new w1 _) (Nat.le_refl 19)) ?_; intro w2 hx2 hk2 hsz2; simp at hsz2; have q2 : Below w1.heap.size w1 w2 := ((Below.refl _ _).alloc (Nat.le_refl _) _).trans (hk2.below (by simp) (fun i hi e => by omega)); have hm2 := hm1.below q2 hm1.lt; clear hm1; have hB2 := hB1.trans (q2.mono hB1.size))
    | (go_at_call 9; refine (hen w2 ro1 lo1 rc1 lc1 (hr1.below q2) (hl1.below q2)).mono ?_; clear hen; rintro e w3 ⟨k, hk, rfl, hg3, hb3⟩; have hbs3 : Bs w3 (.slice (some ⟨k, 0, none⟩) ((bodyB m).length + 4) ((bodyB m).length + 4)) (bodyB m ++ sumBytes (crc (bodyB m))) := seal_bs hg3; have hm3 := hm2.below hb3 hm2.lt; have hx3 := hx2.below hb3 hx2.lt; clear hm2 hx2 hg3; have hB3 := hB2.trans (hb3.mono hB2.size))
    | (go_at_call 16; refine (hrn w3 ro lo rc lc (hr.below hB3) (hl.below hB3)).mono ?_; clear hrn; rintro e w4 ⟨v4, rfl, hv4, hb4⟩; have hm4 := hm3.below hb4 hm3.lt; have hx4 := hx3.below hb4 hx3.lt; clear hm3 hx3; have hB4 := hB3.trans (hb4.mono hB3.size); have hbs4 := hbs3.below hb4)
    | (go_at_call 11; refine (wknown_any _).mono ?_; rintro e w5 ⟨rfl, hb5⟩; have hm5 := hm4.below hb5 hm4.lt; have hx5 := hx4.below hb5 hx4.lt; clear hm4 hx4; have hB5 := hB4.trans (hb5.mono hB4.size); have s1 := (hbs4.below hb5).str (P := Try.prog) 29 9 5 Try.underlying29 Try.underlying5 Try.underlying9; have s2 := (hv4.below hb5).str (P := Try.prog) 29 9 5 Try.underlying29 Try.underlying5 Try.underlying9; have q5 : Below w1.heap.size w1 w5 := q2.trans ((hb3.mono (by have := q2.size; omega)).trans ((hb4.mono (by have := q2.size; have := hb3.size; omega)).trans (hb5.mono (by have := q2.size; have := hb3.size; have := hb4.size; omega)))))
    | (go_at_call 12; refine (same_any m ro1 lo1 ro lo rc1 lc1 rc lc w5 (hr1.below q5) (hr.below hB5) (hl1.below q5) (hl.below hB5) (by omega) (by omega)).mono ?_; rintro e w6 ⟨rfl, hb6⟩))
  go_ret
  exact ⟨rfl, hB5.trans (hb6.mono hB5.size)⟩

theorem wireEncodes_any (m : Msg) (ro lo : Option Addr) (rc lc : Nat) (w : World) (hm : m.Ok) (hr : IDs w ro m.refs) (hr0 : ro = none → rc = 0) (hrl : m.refs.length ≤ 8796093022208) (hl : Us w lo m.list) (hl0 : lo = none → lc = 0) (hll : m.list.length ≤ 17592186044416) :
    Calls Try.prog 5 #[m.v ro lo rc lc] w fun e w' => e = .returned (.bool true) ∧ Below w.heap.size w w' := by
  cases h : rightB m with
  | false => exact wireEncodes_no m ro lo rc lc w hm hr hr0 hrl hl hl0 hll h
  | true => exact wireEncodes_ok m ro lo rc lc w hm hr hr0 hrl hl hl0 hll h

end Go.Proofs.Ytiepbjgcghedeaa
