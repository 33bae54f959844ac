/- The walk of Decode where all could be read. -/
import Derived.Test.YtiepbjgcghedeabWShortP
namespace Go.Proofs.Ytiepbjgcghedeab
open Go.RowKit

/-- The rows of what was read, behind the later calls. -/
theorem rows_on {w w2 w3 w4 w5 : World} {rb g : Nat} {M : List UInt8} {p e p2 e2 : Nat} {m : Msg} {ro lo : Option Addr} {rc lc : Nat} {o : Obj} (hlt : w.heap.size < w2.heap.size) (hrb : rb < w2.heap.size) (hri : RowI w3 ro rc m.refs w2.heap.size) (hru : RowU w3 lo lc m.list w2.heap.size)
    (hk4 : Kept (w3.alloc o) w4 (fun k => k = w3.heap.size)) (hto5 : RTo w4 w5 rb g M p2 e2) (hto3 : RTo w2 w3 rb g M p e) : RowI w5 ro rc m.refs (w.heap.size + 1) ∧ RowU w5 lo lc m.list (w.heap.size + 1) := by
  have hlt3 := hto3.kept.size
  constructor
  · rcases hri with h | ⟨k, h1, h2, h3, h4⟩
    · exact Or.inl h
    · have hk := (Array.getElem?_eq_some_iff.1 h4).1
      exact Or.inr ⟨k, h1, h2, by omega, (hto5.kept.block k (by have := hk4.size; simp at this; omega) (by omega)).trans ((hk4.block k (by simp; omega) (by omega)).trans ((Below.heap_alloc w3 _ k hk).trans h4))⟩
  · rcases hru with h | ⟨k, h1, h2, h3, h4⟩
    · exact Or.inl h
    · have hk := (Array.getElem?_eq_some_iff.1 h4).1
      exact Or.inr ⟨k, h1, h2, by omega, (hto5.kept.block k (by have := hk4.size; simp at this; omega) (by omega)).trans ((hk4.block k (by simp; omega) (by omega)).trans ((Below.heap_alloc w3 _ k hk).trans h4))⟩

set_option maxRecDepth 20000 in
set_option maxHeartbeats 4000000 in
theorem decode_form (v : Value) (M : List UInt8) (x0 x1 x2 x3 : UInt8) (w : World) (hv : Bs w v (M ++ [x0, x1, x2, x3])) (hl : M.length + 4 ≤ 1024) (hs : sumOf x0 x1 x2 x3 = crc M) (he : rEnd M (rAll M 0 0).2.1 (rAll M 0 0).2.2 = 0) (hri : rightB (rAll M 0 0).1 = false) :
    Calls Try.prog 11 #[v] w fun e w' => e = .returned (.tuple #[zeroM.v none none 0 0, .int .i64 21]) ∧ Below w.heap.size w w' := by
  have hu := fun w' hb => unseal_ok v M x0 x1 x2 x3 w' (hv.below hb) (by omega) hs
  have hlen : (M ++ [x0, x1, x2, x3]).length = M.length + 4 := by simp
  obtain ⟨ao, cap, hve, hc, hx⟩ := hv
  rw [hlen] at hve
  subst hve
  clear hx hc
  have hra := fun w rb g h => readAll_any w rb g M 0 0 h
  have hen := fun w rb g h => rend_any w rb g M (rAll M 0 0).2.1 (rAll M 0 0).2.2 h
  have hsm := rAll_sm M 0 0
  rw [he] at hen
  have hrt := fun w ro lo rc lc h1 h2 => right_any (rAll M 0 0).1 ro lo rc lc w h1 (by have := hsm.refs; omega) h2 (by have := hsm.list; omega)
  rw [hri] at hrt
  generalize rAll M 0 0 = X at *
  clear he hs hri
  have hz : ∀ o, (w.alloc o).heap.size = w.heap.size + 1 := fun o => by simp
  go_enter Try.func11, Try.ntmps11
  go_wp2_with (first
    | (refine load_mat _ rfl (by rfl) _ rfl X.1 ro lo rc lc hm5 ?_)
    | (go_at_call 29; refine (hu _ ((Below.refl _ _).alloc (Nat.le_refl _) _)).mono ?_; clear hu; rintro r w1 ⟨rfl, hg1, hb1, hlt1⟩; rw [hz] at hg1 hlt1 hb1)
    | (go_at_call 30; refine (newReader_any _ M w1 (Bs.ofBlock hg1 (List.take_of_length_le (by simp)) (Nat.le_refl _)) (by omega)).mono ?_; rintro r w2 ⟨rb, hrb, rfl, hr2, hb2⟩)
    | (go_at_call 31; refine (hra w2 rb _ hr2).mono ?_; clear hra; rintro r w3 ⟨ro, lo, rc, lc, rfl, hri, hru, hto3⟩)
    | (refine store_msg _ _ rfl rfl w3.heap.size rfl X.1 ro lo rc lc rfl (by simp) (there_row (cs := zeroCells) (heap_alloc_new w3 _) (Nat.le_refl 19)) ?_; intro w4 hm4 hk4 hsz4; simp at hsz4; have r4 := (hto3.rd.below ((Below.refl _ _).alloc (Nat.le_refl _) _)).keep hk4 (by have := hto3.rd.size; omega) (by have := hto3.rd.size; have := hto3.rd.lt; omega))
    | (go_at_call 32; refine (hen w4 rb _ r4).mono ?_; clear hen; rintro r w5 ⟨rfl, hto5⟩; have z2 := hb2.size; have z3 := hto3.kept.size; have z5 := hto5.kept.size; have hZ5 : w5.heap[w.heap.size]? = some (.cells zeroCells 28 (0, 0)) := (hto5.kept.block w.heap.size (by omega) (by omega)).trans ((hk4.block w.heap.size (by simp; omega) (by omega)).trans ((Below.heap_alloc w3 _ w.heap.size (by omega)).trans ((hto3.kept.block w.heap.size (by omega) (by omega)).trans ((hb2.block w.heap.size (by omega)).trans ((hb1.block w.heap.size (by omega)).trans (heap_alloc_new w _)))))); have hm5 := hm4.keep hto5.kept (by have := hto3.rd.size; omega); have rows := rows_on (w := w) (by omega) (by have := hr2.size; omega) hri hru hk4 hto5 hto3; have hids := rows.1.ids; have hus := rows.2.us)
    | (go_at_call 10; refine (hrt w5 ro lo rc lc hids hus).mono ?_; rintro r w6 ⟨rfl, hb6⟩; have hZ : w6.heap[w.heap.size]? = some (.cells zeroCells 28 (0, 0)) := (hb6.block w.heap.size (by omega)).trans hZ5; have z6 := hb6.size)
    | (refine store_msg _ _ rfl rfl w.heap.size rfl zeroM none none 0 0 rfl (by omega) (there_row (cs := zeroCells) hZ (Nat.le_refl 19)) ?_; intro w7 hm7 hk7 hsz7))
  (try simp only [Exit.inBlock, Exit.then])
  refine bodyPost_ret (res_msg2 rfl _ rfl hm7) rfl ⟨rfl, ?_⟩
  have q1 : Below w.heap.size w w2 := (((Below.refl _ _).alloc (Nat.le_refl _) _).trans (hb1.mono (by omega))).trans (hb2.mono (by omega))
  have q2 : Below w.heap.size w2 w3 := hto3.bel (by omega) (by omega)
  have q3 : Below w.heap.size w3 w4 := ((Below.refl _ _).alloc (by omega) _).trans (hk4.below (by simp; omega) (fun k hk e => by omega))
  have q4 : Below w.heap.size w4 w5 := hto5.bel (by omega) (by omega)
  exact ((((q1.trans q2).trans q3).trans q4).trans (hb6.mono (by omega))).trans (hk7.below (by omega) (fun k hk e => by omega))

set_option maxRecDepth 20000 in
set_option maxHeartbeats 4000000 in
theorem decode_ok (v : Value) (M : List UInt8) (x0 x1 x2 x3 : UInt8) (w : World) (hv : Bs w v (M ++ [x0, x1, x2, x3])) (hl : M.length + 4 ≤ 1024) (hs : sumOf x0 x1 x2 x3 = crc M) (he : rEnd M (rAll M 0 0).2.1 (rAll M 0 0).2.2 = 0) (hri : rightB (rAll M 0 0).1 = true) :
    Calls Try.prog 11 #[v] w fun e w' => ∃ ro lo rc lc, e = .returned (.tuple #[(rAll M 0 0).1.v ro lo rc lc, .int .i64 0]) ∧ RowI w' ro rc (rAll M 0 0).1.refs (w.heap.size + 1) ∧ RowU w' lo lc (rAll M 0 0).1.list (w.heap.size + 1) ∧ Below w.heap.size w w' := by
  have hu := fun w' hb => unseal_ok v M x0 x1 x2 x3 w' (hv.below hb) (by omega) hs
  have hlen : (M ++ [x0, x1, x2, x3]).length = M.length + 4 := by simp
  obtain ⟨ao, cap, hve, hc, hx⟩ := hv
  rw [hlen] at hve
  subst hve
  clear hx hc
  have hra := fun w rb g h => readAll_any w rb g M 0 0 h
  have hen := fun w rb g h => rend_any w rb g M (rAll M 0 0).2.1 (rAll M 0 0).2.2 h
  have hsm := rAll_sm M 0 0
  rw [he] at hen
  have hrt := fun w ro lo rc lc h1 h2 => right_any (rAll M 0 0).1 ro lo rc lc w h1 (by have := hsm.refs; omega) h2 (by have := hsm.list; omega)
  rw [hri] at hrt
  generalize rAll M 0 0 = X at *
  clear he hs hri
  have hz : ∀ o, (w.alloc o).heap.size = w.heap.size + 1 := fun o => by simp
  go_enter Try.func11, Try.ntmps11
  go_wp2_with (first
    | (refine load_mat _ rfl (by rfl) _ rfl X.1 ro lo rc lc hm6 ?_)
    | (refine load_mat _ rfl (by rfl) _ rfl X.1 ro lo rc lc hm5 ?_)
    | (go_at_call 29; refine (hu _ ((Below.refl _ _).alloc (Nat.le_refl _) _)).mono ?_; clear hu; rintro r w1 ⟨rfl, hg1, hb1, hlt1⟩; rw [hz] at hg1 hlt1 hb1)
    | (go_at_call 30; refine (newReader_any _ M w1 (Bs.ofBlock hg1 (List.take_of_length_le (by simp)) (Nat.le_refl _)) (by omega)).mono ?_; rintro r w2 ⟨rb, hrb, rfl, hr2, hb2⟩)
    | (go_at_call 31; refine (hra w2 rb _ hr2).mono ?_; clear hra; rintro r w3 ⟨ro, lo, rc, lc, rfl, hri, hru, hto3⟩)
    | (refine store_msg _ _ rfl rfl w3.heap.size rfl X.1 ro lo rc lc rfl (by simp) (there_row (cs := zeroCells) (heap_alloc_new w3 _) (Nat.le_refl 19)) ?_; intro w4 hm4 hk4 hsz4; simp at hsz4; have r4 := (hto3.rd.below ((Below.refl _ _).alloc (Nat.le_refl _) _)).keep hk4 (by have := hto3.rd.size; omega) (by have := hto3.rd.size; have := hto3.rd.lt; omega))
    | (go_at_call 32; refine (hen w4 rb _ r4).mono ?_; clear hen; rintro r w5 ⟨rfl, hto5⟩; have z2 := hb2.size; have z3 := hto3.kept.size; have z5 := hto5.kept.size; have hZ5 : w5.heap[w.heap.size]? = some (.cells zeroCells 28 (0, 0)) := (hto5.kept.block w.heap.size (by omega) (by omega)).trans ((hk4.block w.heap.size (by simp; omega) (by omega)).trans ((Below.heap_alloc w3 _ w.heap.size (by omega)).trans ((hto3.kept.block w.heap.size (by omega) (by omega)).trans ((hb2.block w.heap.size (by omega)).trans ((hb1.block w.heap.size (by omega)).trans (heap_alloc_new w _)))))); have hm5 := hm4.keep hto5.kept (by have := hto3.rd.size; omega); have rows := rows_on (w := w) (by omega) (by have := hr2.size; omega) hri hru hk4 hto5 hto3; have hids := rows.1.ids; have hus := rows.2.us)
    | (go_at_call 10; refine (hrt w5 ro lo rc lc hids hus).mono ?_; rintro r w6 ⟨rfl, hb6⟩; have hZ : w6.heap[w.heap.size]? = some (.cells zeroCells 28 (0, 0)) := (hb6.block w.heap.size (by omega)).trans hZ5; have z6 := hb6.size; have hm6 := hm5.below hb6 hm5.lt)
    | (refine store_msg _ _ rfl rfl w.heap.size rfl X.1 ro lo rc lc rfl (by omega) (there_row (cs := zeroCells) hZ (Nat.le_refl 19)) ?_; intro w7 hm7 hk7 hsz7))
  (try simp only [Exit.inBlock, Exit.then])
  refine bodyPost_ret (res_msg2 rfl _ rfl hm7) rfl ⟨ro, lo, rc, lc, rfl, (rows.1.keep (kept_of_below hb6 (fun _ => False)) (fun _ _ h => h)).keep hk7 (fun k hk e => by omega), (rows.2.keep (kept_of_below hb6 (fun _ => False)) (fun _ _ h => h)).keep hk7 (fun k hk e => by omega), ?_⟩
  have q1 : Below w.heap.size w w2 := (((Below.refl _ _).alloc (Nat.le_refl _) _).trans (hb1.mono (by omega))).trans (hb2.mono (by omega))
  have q2 : Below w.heap.size w2 w3 := hto3.bel (by omega) (by omega)
  have q3 : Below w.heap.size w3 w4 := ((Below.refl _ _).alloc (by omega) _).trans (hk4.below (by simp; omega) (fun k hk e => by omega))
  have q4 : Below w.heap.size w4 w5 := hto5.bel (by omega) (by omega)
  exact ((((q1.trans q2).trans q3).trans q4).trans (hb6.mono (by omega))).trans (hk7.below (by omega) (fun k hk e => by omega))

end Go.Proofs.Ytiepbjgcghedeab
