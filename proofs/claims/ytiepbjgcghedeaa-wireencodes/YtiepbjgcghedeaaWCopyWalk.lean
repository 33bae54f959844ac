/- The walk of copyOf. -/
import Derived.Test.YtiepbjgcghedeaaWCopy
namespace Go.Proofs.Ytiepbjgcghedeaa
open Go.RowKit

set_option maxRecDepth 20000 in
set_option maxHeartbeats 4000000 in
theorem copyOf_any (m : Msg) (ro lo : Option Addr) (rc lc : Nat) (w : World) (hr : IDs w ro m.refs) (hr0 : ro = none → rc = 0) (hrl : m.refs.length ≤ 8796093022208) (hl : Us w lo m.list) (hl0 : lo = none → lc = 0) (hll : m.list.length ≤ 17592186044416) :
    Calls Try.prog 14 #[m.v ro lo rc lc] w fun e w' => ∃ ro' lo' rc' lc', e = .returned (m.v ro' lo' rc' lc') ∧ IDs w' ro' m.refs ∧ (ro' = none → rc' = 0) ∧ Us w' lo' m.list ∧ (lo' = none → lc' = 0) ∧ Below w.heap.size w w' := by
  go_enter Try.func14, Try.ntmps14
  go_wp2_with (first
    | (at_builtin; refine append_ids rfl _ _ rfl _ rfl (alloc3_new _ _ _ _) ro rc m.refs rfl hr0 (hr.below (below3 _ _ _ _)) hrl ?_; intro ro' rc' w1 hr1 hr01 hh1 hb1; have hB1 := (below3 w _ _ _).trans (hb1.mono (by omega)); have hs1 : w.heap.size + 1 + 1 < w1.heap.size := by { have := hb1.size; simp at this; omega }; have hx1 := (((MBox.new w m ro lo rc lc).below ((Below.refl (w.heap.size + 1) _).alloc (by simp) _) (by omega)).below ((Below.refl (w.heap.size + 1) _).alloc (by simp) _) (by omega)).mat.below hb1 (by omega); have hbl := hx1.lt; have c10 := hx1.cells 10 _ rfl; have c18 := hx1.cells 18 _ rfl; have f10 : w1.frozen? ⟨w.heap.size, 10, none⟩ = false := (hx1.th 10 (by omega)).2)
    | (at_builtin; go_must (refine append_us rfl _ _ rfl _ rfl (set_alloc_new _ _ _ _) lo lc m.list rfl hl0 (hl.below ((hB1.setCell (p := ⟨w.heap.size, 10, none⟩) (Nat.le_refl _) _).alloc (by have := hB1.size; simp; omega) _)) hll ?_); intro lo' lc' w2 hl2 hl02 hh2 hb2; have hs2 : w1.heap.size < w2.heap.size := by { have := hb2.size; simp at this; omega }; have hx2 := ((hx1.setRefs ro' rc').below ((Below.refl w1.heap.size _).alloc (by simp) _) hbl).below hb2 hbl; have d18 := hx2.cells 18 _ rfl; have g18 : w2.frozen? ⟨w.heap.size, 18, none⟩ = false := (hx2.th 18 (by omega)).2; have hx3 := hx2.setList lo' lc'; go_must (have hZ : (w2.setCell ⟨w.heap.size, 18, none⟩ (.slice lo' m.list.length lc')).heap[w.heap.size + 1]? = some (.cells zeroCells 28 (0, 0)) := by { rw [Below.heap_setCell _ _ _ _ (by simp), hb2.block _ (by omega), Below.heap_alloc _ _ _ (by simp; omega), Below.heap_setCell _ _ _ _ (by simp), hb1.block _ (by omega)]; exact alloc3_mid _ _ _ _ }))
    | (refine load_mat _ rfl (by rfl) _ rfl m ro' lo' rc' lc' hx3 ?_)
    | (refine store_msg _ _ rfl rfl (w.heap.size + 1) rfl m ro' lo' rc' lc' rfl (by simp; omega) (there_row hZ (Nat.le_refl 19)) ?_; intro w3 hm3 hk3 hsz3))
  (try simp only [Exit.inBlock, Exit.then])
  have hsz1 : w.heap.size + 1 + 1 < w1.heap.size := hs1
  have hsz4 : w3.heap.size = w2.heap.size := by simpa using hsz3
  have kk : ∀ k, k ≠ w.heap.size → k ≠ w.heap.size + 1 → k < w2.heap.size → w3.heap[k]? = w2.heap[k]? := by
    intro k h1 h2 h3
    rw [hk3.block k (by simpa using h3) h2]
    exact Below.heap_setCell _ _ _ _ h1
  have k2 : ∀ k, k ≠ w.heap.size → k < w1.heap.size → w2.heap[k]? = w1.heap[k]? := by
    intro k h1 h2
    rw [hb2.block k h2, Below.heap_alloc _ _ _ (by simpa using h2)]
    exact Below.heap_setCell _ _ _ _ h1
  refine bodyPost_ret (res_msg1 rfl _ rfl hm3) rfl ⟨ro', lo', rc', lc', rfl, hr1.high hh1 (by omega) (fun k h1 h2 => (kk k (by omega) (by omega) (by omega)).trans (k2 k (by omega) h2)), hr01, hl2.high hh2 (by omega) (fun k h1 h2 => kk k (by omega) (by omega) h2), hl02, ?_⟩
  exact ⟨hk3.os.trans (hb2.os.trans hB1.os), hk3.tape.trans (hb2.tape.trans hB1.tape), hk3.output.trans (hb2.output.trans hB1.output), by omega, fun k hk => (kk k (by omega) (by omega) (by omega)).trans ((k2 k (by omega) (by omega)).trans (hB1.block k hk))⟩

end Go.Proofs.Ytiepbjgcghedeaa
