import Derived.Test.YtcpegfjjdojinaaRDecEP
import Derived.Test.YtcpegfjjdojinaaWalkDP
import Derived.Test.YtcpegfjjdojinaaRMath
import Derived.Test.YtcpegfjjdojinaaWReadWP
import Derived.Deep.CutRange
import Derived.Deep.CutBlock
/- The plain Decode: its walk. -/
/- The plain Decode: what was sealed is read. -/
namespace Go.Proofs.Ytcpegfjjdojinaa
open Go.RowKit

theorem own_mono {w : World} {base base' : Nat} {e : TypeId} {sz : Nat} {v : Value} {n : Nat} {xs : List Value} (h : w.ownsRow base e sz v n xs) (hb : base' ≤ base) : w.ownsRow base' e sz v n xs := by
  refine ⟨h.1, ?_⟩
  rcases h.2 with h2 | ⟨g, cap, cur, rfl, hg, h5⟩
  · exact Or.inl h2
  · exact Or.inr ⟨g, cap, cur, rfl, by omega, h5⟩

/-- How far the plain Decode has come: its Reader at fb, the message at mb, the result's cells at w's end. -/
structure DR (w W : World) (fb cap : Nat) (ao : Option Addr) (L : List UInt8) (mb : Nat) (m : Msg) (ro lo : Option Addr) (rc lc p e : Nat) : Prop where
  rd : RF W fb ao cap L p e
  ms : MAt W mb m ro lo rc lc
  z : W.heap[w.heap.size]? = some (.cells zeroCells 28 (0, 0))
  rr : W.ownsRow (mb + 1) 24 2 (.slice ro m.refs.length rc) m.refs.length (m.refs.flatMap idCells)
  rl : W.ownsRow (mb + 1) 22 1 (.slice lo m.list.length lc) m.list.length (m.list.map nv64)
  bel : Below w.heap.size w W
  o1 : w.heap.size < fb
  o2 : fb < mb
  o3 : ∀ k, L ≠ [] → (Value.slice ao L.length cap).ownBlock = some k → k < fb

section
variable {w W W' : World} {fb cap mb : Nat} {ao : Option Addr} {L : List UInt8} {m : Msg} {ro lo : Option Addr} {rc lc : Nat} {p e : Nat}
theorem DR.lt (h : DR w W fb cap ao L mb m ro lo rc lc p e) : mb < W.heap.size := h.ms.lt
theorem DR.move (h : DR w W fb cap ao L mb m ro lo rc lc p e) {S : Nat → Prop} (hk : Kept W W' S) (hS : ∀ j, S j → j = fb ∨ j = mb) {p' e' : Nat} {m' : Msg} (hr : RF W' fb ao cap L p' e') (hm : MAt W' mb m' ro lo rc lc) (h1 : m'.refs = m.refs) (h2 : m'.list = m.list) : DR w W' fb cap ao L mb m' ro lo rc lc p' e' := by
  have a1 := h.o1
  have a2 := h.o2
  have a3 := h.lt
  have hS2 : ∀ j, (j < fb ∨ mb < j) → ¬ S j := fun j hj x => by rcases hS j x with e | e <;> omega
  refine ⟨hr, hm, (hk.block _ (by omega) (hS2 _ (by omega))).trans h.z, ?_, ?_, h.bel.trans (hk.below (by omega) (fun i hi => hS2 i (by omega))), a1, a2, h.o3⟩
  · rw [h1]; exact own_keptR h.rr hk (fun j hj => hS2 j (by have := (own_geR h.rr j hj).1; omega))
  · rw [h2]; exact own_keptR h.rl hk (fun j hj => hS2 j (by have := (own_geR h.rl j hj).1; omega))
theorem DR.read (h : DR w W fb cap ao L mb m ro lo rc lc p e) {p' e' : Nat} (ht : FTo W W' fb ao cap L p' e') : DR w W' fb cap ao L mb m ro lo rc lc p' e' :=
  h.move ht.kept (fun _ e => Or.inl e) ht.rd (h.ms.keep ht.kept (by have := h.o2; omega)) rfl rfl
theorem DR.below (h : DR w W fb cap ao L mb m ro lo rc lc p e) (hb : Below W.heap.size W W') : DR w W' fb cap ao L mb m ro lo rc lc p e := h.read (FTo.ofBelow h.rd hb)
theorem DR.put (h : DR w W fb cap ao L mb m ro lo rc lc p e) (m' : Msg) (j : Nat) (u : Value) (hj : j < 19) (hm : m'.cl ro lo rc lc = (m.cl ro lo rc lc).set j u) (h1 : m'.refs = m.refs) (h2 : m'.list = m.list) : DR w (W.setCell ⟨mb, j, none⟩ u) fb cap ao L mb m' ro lo rc lc p e :=
  h.move (Kept.setCell W ⟨mb, j, none⟩ u) (fun _ e => Or.inr e) (h.rd.keep (Kept.setCell W ⟨mb, j, none⟩ u) (by have := h.o2; show ¬ (fb = mb); omega) (fun i hne hi _ e => by have := h.o3 i hne hi; have := h.o2; have e' : i = mb := e; omega)) (h.ms.set j u hj hm) h1 h2
theorem DR.f0 (h : DR w W fb cap ao L mb m ro lo rc lc p e) : F0 W fb cap ao L mb := by
  have a2 := h.o2
  have a3 := h.lt
  exact ⟨by omega, a3, by omega, fun k hne hk => by have := h.o3 k hne hk; omega⟩
theorem DR.fields (h : DR w W fb cap ao L mb m none none 0 0 p e) {k : Int} {m' : Msg} {p' e' : Nat} (hf : FS W W' fb cap ao L mb k m' ro lo rc lc p' e') : DR w W' fb cap ao L mb m' ro lo rc lc p' e' := by
  have a1 := h.o1
  have a2 := h.o2
  have a3 := h.lt
  exact ⟨hf.rd, hf.ms, (hf.kp.block _ (by omega) (by omega)).trans h.z, own_mono hf.rr (by omega), own_mono hf.rl (by omega), h.bel.trans (hf.kp.below (by omega) (fun i hi => by omega)), a1, a2, h.o3⟩
theorem DR.ids (h : DR w W fb cap ao L mb m ro lo rc lc p e) : IDs W ro m.refs := by
  obtain ⟨ao', cap', e, hi, _⟩ := IDs.ofOwns h.rr
  cases e
  exact hi
theorem DR.us (h : DR w W fb cap ao L mb m ro lo rc lc p e) : Us W lo m.list := by
  obtain ⟨ao', cap', e, hi, _⟩ := Us.ofOwns h.rl
  cases e
  exact hi
end

set_option maxRecDepth 20000 in
set_option maxHeartbeats 4000000 in
theorem rdecode_long (v : Value) (l : List UInt8) (w : World) (hv : Bs w v l) (hl : 1024 < l.length) (hl2 : l.length ≤ 140737488355328) :
    Calls Try.prog 17 #[v] w fun e w' => e = .returned (.tuple #[zeroM.v none none 0 0, .int .i64 22]) ∧ Below w.heap.size w w' := by
  obtain ⟨ao, cap, rfl, hc, hx⟩ := hv
  go_enter Try.func17, Try.ntmps17
  go_wp2_with (refine store_msg _ _ rfl rfl w.heap.size rfl zeroM none none 0 0 rfl (by simp) (there_row (cs := zeroCells) (heap_alloc_new w _) (Nat.le_refl 19)) ?_; intro w3 hm3 hk3 hsz3)
  (try simp only [Exit.inBlock, Exit.then])
  refine bodyPost_ret (res_msg2 rfl _ rfl hm3) rfl ⟨rfl, ?_⟩
  exact ((Below.refl _ _).alloc (Nat.le_refl _) _).trans (hk3.below (by simp) (fun k hk e => by omega))

set_option maxRecDepth 20000 in
set_option maxHeartbeats 4000000 in
theorem rdecode_bad (v : Value) (l : List UInt8) (E : Nat) (w : World) (hv : Bs w v l) (hl : l.length ≤ 1024) (hE : (E : Int) ≠ 0) (hu : ∀ w', Below w.heap.size w w' → Calls Try.prog 41 #[v] w' fun e w'' => e = .returned (.tuple #[.slice none 0 0, .int .i64 (E : Int)]) ∧ w' = w'') :
    Calls Try.prog 17 #[v] w fun e w' => e = .returned (.tuple #[zeroM.v none none 0 0, .int .i64 (E : Int)]) ∧ Below w.heap.size w w' := by
  obtain ⟨ao, cap, rfl, hc, hx⟩ := hv
  have t : ((E : Int) == 0) = false := by rw [beq_eq_false_iff_ne]; exact hE
  have t2 : ((E : Int) != 0) = true := by rw [bne_iff_ne]; exact hE
  go_enter Try.func17, Try.ntmps17
  go_wp2_with (first
    | (go_at_call 41; refine (hu _ ((Below.refl _ _).alloc (Nat.le_refl _) _)).mono ?_; rintro r _ ⟨rfl, rfl⟩)
    | (refine store_msg _ _ rfl rfl w.heap.size rfl zeroM none none 0 0 rfl (by simp) (there_row (cs := zeroCells) (heap_alloc_new w _) (Nat.le_refl 19)) ?_; intro w3 hm3 hk3 hsz3))
  (try simp only [Exit.inBlock, Exit.then])
  refine bodyPost_ret (res_msg2 rfl _ rfl hm3) rfl ⟨rfl, ?_⟩
  exact ((Below.refl _ _).alloc (Nat.le_refl _) _).trans (hk3.below (by simp) (fun k hk e => by omega))

end Go.Proofs.Ytcpegfjjdojinaa

namespace Go.Proofs.Ytcpegfjjdojinaa
open Go.RowKit

theorem mat_zero {w : World} {b : Nat} (h : w.heap[b]? = some (.cells zeroCells 28 (0, 0))) : MAt w b zeroM none none 0 0 := by
  refine ⟨(Array.getElem?_eq_some_iff.1 h).1, fun j v hv => ?_, there_row (cs := zeroCells) h (Nat.le_refl 19)⟩
  rw [Nat.zero_add, cell_of_row w b j _ _ _ h, ← Array.getElem?_toList]
  exact hv
theorem dr_start (w w1 : World) (ao : Option Addr) (cap : Nat) (L : List UInt8) (hb : Below (w.alloc (.cells zeroCells 28)).heap.size (w.alloc (.cells zeroCells 28)) w1) (hs : Bs w1 (.slice ao L.length cap) L) (hl : L.length ≤ 140737488355328) :
    DR w ((w1.alloc (.cells #[.slice ao L.length cap, .int .i64 0, .int .i64 0] 66)).alloc (.cells zeroCells 28)) w1.heap.size cap ao L (w1.heap.size + 1) zeroM none none 0 0 0 0 := by
  have z1 := hb.size
  rw [World.size_alloc] at z1
  have ho3 : ∀ k, L ≠ [] → (Value.slice ao L.length cap).ownBlock = some k → k < w1.heap.size := by
    intro k hne hk
    obtain ⟨ao', cap', e, _, hx⟩ := hs
    cases e
    obtain ⟨b, off, rfl, hlt, _⟩ := hx hne
    simp only [Value.ownBlock, Option.some.injEq] at hk
    omega
  have hb2 : Below w1.heap.size w1 ((w1.alloc (.cells #[.slice ao L.length cap, .int .i64 0, .int .i64 0] 66)).alloc (.cells zeroCells 28)) := ((Below.refl _ _).alloc (Nat.le_refl _) _).alloc (by simp) _
  have hfb : ((w1.alloc (.cells #[.slice ao L.length cap, .int .i64 0, .int .i64 0] 66)).alloc (.cells zeroCells 28)).heap[w1.heap.size]? = some (.cells #[.slice ao L.length cap, .int .i64 0, .int .i64 0] 66 (0, 0)) := by
    rw [Below.heap_alloc _ _ _ (by simp)]
    exact heap_alloc_new w1 _
  have hmb : ((w1.alloc (.cells #[.slice ao L.length cap, .int .i64 0, .int .i64 0] 66)).alloc (.cells zeroCells 28)).heap[w1.heap.size + 1]? = some (.cells zeroCells 28 (0, 0)) := by
    have := heap_alloc_new (w1.alloc (.cells #[.slice ao L.length cap, .int .i64 0, .int .i64 0] 66)) (.cells zeroCells 28)
    rw [World.size_alloc] at this
    exact this
  have hz1 : w1.heap[w.heap.size]? = some (.cells zeroCells 28 (0, 0)) := (hb.block w.heap.size (by simp)).trans (heap_alloc_new w _)
  refine ⟨⟨hfb, hs.below hb2, fun k hne hk => by have := ho3 k hne hk; omega, Nat.zero_le _, hl⟩, mat_zero hmb, (hb2.block w.heap.size (by omega)).trans hz1, ⟨rfl, Or.inl ⟨rfl, rfl⟩⟩, ⟨rfl, Or.inl ⟨rfl, rfl⟩⟩, ?_, by omega, by omega, ho3⟩
  exact (((Below.refl _ w).alloc (Nat.le_refl _) _).trans (hb.mono (by simp))).trans (hb2.mono (by omega))

/-- What the plain Decode answers where the sum is right. -/
def RD1 (M : List UInt8) (w : World) (e : Ending) (w' : World) : Prop :=
  ((decE M ≠ 0 ∧ e = .returned (.tuple #[zeroM.v none none 0 0, .int .i64 (decE M : Int)])) ∨
    (decE M = 0 ∧ ∃ ro lo rc lc, e = .returned (.tuple #[(rAll M 0 0).1.v ro lo rc lc, .int .i64 0]) ∧ IDs w' ro (rAll M 0 0).1.refs ∧ Us w' lo (rAll M 0 0).1.list)) ∧ Below w.heap.size w w'

set_option maxRecDepth 20000 in
set_option maxHeartbeats 1000000 in
theorem rdecode_read (v : Value) (M : List UInt8) (x0 x1 x2 x3 : UInt8) (w : World) (hv : Bs w v (M ++ [x0, x1, x2, x3])) (hl : M.length + 4 ≤ 1024) (hs : sumOf x0 x1 x2 x3 = crc M) :
    Calls Try.prog 17 #[v] w (RD1 M w) := by
  have hu := fun w' hb => refUnseal_ok v M x0 x1 x2 x3 w' (hv.below hb) (by omega) hs
  have hlen : (M ++ [x0, x1, x2, x3]).length = M.length + 4 := by simp
  obtain ⟨ao0, cap0, hve, hc0, hx0⟩ := hv
  rw [hlen] at hve
  subst hve
  clear hx0 hc0
  obtain ⟨x, hx⟩ := rb_u8 M 0 0 11
  have hxl := x.toNat_lt
  have hby := fun w fb ao cap h => fbyte_any w fb cap ao M 0 0 11 h
  rw [hx] at hby
  have HX : Hid ((rByte M 0 0 11).1 = x.toNat) := hx
  clear hx
  go_enter Try.func17, Try.ntmps17
  go_upto_if 31 with (first
    | (go_at_call 41; refine (hu _ ((Below.refl _ _).alloc (Nat.le_refl _) _)).mono ?_; rintro r w1 ⟨v1, rfl, hs1, hb1⟩; obtain ⟨ao, cap, hve, _⟩ := id hs1; subst hve; have hD := dr_start w w1 ao cap M hb1 hs1 (by omega); clear hu)
    | (go_at_call 42; refine (hby _ _ _ _ hD.rd).mono ?_; rintro r w4 ⟨rfl, hto4⟩; have hD4 := hD.read hto4; have c0 := hD4.ms.cells 0 _ rfl; have z0 := frozen_at hD4.ms 0 (by omega); have c0' : (w4.setCell ⟨w1.heap.size + 1, 0, none⟩ (.int .i64 (x.toNat : Int))).cell? ⟨w1.heap.size + 1, 0, none⟩ = some (.int .i64 (x.toNat : Int)) := World.cell?_setCell_same _ _ _ c0))
  have hD5 := hD4.put { zeroM with kind := (x.toNat : Int) } 0 (.int .i64 (x.toNat : Int)) (by omega) rfl rfl rfl
  generalize w4.setCell ⟨w1.heap.size + 1, 0, none⟩ (.int .i64 (x.toNat : Int)) = w5 at *
  generalize w1.heap.size = fb at *
  clear hD hD4 c0 z0 c0' hto4 hb1 hs1 hby
  go_cut [] from 26 to 41 (fun wc => ∃ m' ro lo rc lc p' e', DR w wc fb cap ao M (fb + 1) m' ro lo rc lc p' e' ∧ Qr (m', p', e') (rAll M 0 0))
  case first =>
    by_cases h0 : x.toNat = 0
    · have h1 : ¬ (0 < x.toNat) := by omega
      go_wp2
      go_meet
      refine ⟨_, _, _, _, _, _, _, hD5, ?_⟩
      have e : rAll M 0 0 = (zeroM, (rByte M 0 0 11).2) := by unfold rAll; rw [if_pos (HX.out.trans h0)]
      rw [e, h0]
      exact Qr.refl _
    · have h1 : 0 < x.toNat := by omega
      have hx11 : x.toNat ≤ 11 := by rw [← HX.out]; exact rByte_le M 0 0 11
      have HR0 : rAll M 0 0 = rFs M 15 (rHead M 0 0) := by unfold rAll; rw [if_neg (by rw [HX.out]; exact h0)]
      unfold rHead at HR0
      obtain ⟨y, hy⟩ := rb_u8 M (rByte M 0 0 11).2.1 (rByte M 0 0 11).2.2 64
      have hyl := y.toNat_lt
      have hb2 := fun w h => fbyte_any w fb cap ao M (rByte M 0 0 11).2.1 (rByte M 0 0 11).2.2 64 h
      rw [HX.out] at HR0
      generalize rByte M 0 0 11 = B1 at *
      rw [hy] at hb2 HR0
      obtain ⟨z, hz⟩ := rb_u8 M (rByte M B1.2.1 B1.2.2 64).2.1 (rByte M B1.2.1 B1.2.2 64).2.2 64
      have hzl := z.toNat_lt
      have hb3 := fun w h => fbyte_any w fb cap ao M (rByte M B1.2.1 B1.2.2 64).2.1 (rByte M B1.2.1 B1.2.2 64).2.2 64 h
      clear hy
      generalize rByte M B1.2.1 B1.2.2 64 = B2 at *
      rw [hz] at hb3 HR0
      clear hz
      generalize rByte M B2.2.1 B2.2.2 64 = B3 at *
      have HR := hiddenR HR0
      clear h0 HR0
      have t1 : True := trivial
      go_wp2_with (first
        | (go_at_call 42; clear t1; refine (hb2 _ hD5.rd).mono ?_; rintro r w6 ⟨rfl, hto6⟩; have hD6 := hD5.read hto6; have c1 := hD6.ms.cells 1 _ rfl; have z1 := frozen_at hD6.ms 1 (by omega); have hD7 := hD6.put { zeroM with kind := (x.toNat : Int), frm := (y.toNat : Int) } 1 (.int .i64 (y.toNat : Int)) (by omega) rfl rfl rfl; clear hD5 hto6 hb2)
        | (go_at_call 42; refine (hb3 _ hD7.rd).mono ?_; rintro r w8 ⟨rfl, hto8⟩; have hD8 := hD7.read hto8; have c2 := hD8.ms.cells 2 _ rfl; have z2 := frozen_at hD8.ms 2 (by omega); have hD9 := hD8.put { zeroM with kind := (x.toNat : Int), frm := (y.toNat : Int), «to» := (z.toNat : Int) } 2 (.int .i64 (z.toNat : Int)) (by omega) rfl rfl rfl; clear hD7 hto8 hb3)
        | (go_at_call 43; refine (ffields_any _ fb cap ao M (fb + 1) (x.toNat : Int) _ _ _ hD9.f0 hD9.rd hD9.ms rfl rfl rfl).mono ?_; rintro r w10 ⟨rfl, m', ro, lo, rc, lc, p', e', hfs, hfr⟩; have hD10 := hD9.fields hfs))
      go_meet
      refine ⟨m', ro, lo, rc, lc, p', e', hD10, ?_⟩
      rw [HR.out]
      exact fr_same M x.toNat hx11 (y.toNat : Int) (z.toNat : Int) _ _ m' p' e' hfr
  case rest =>
    obtain ⟨m', ro, lo, rc, lc, p', e', hD, hQ⟩ := hcut
    obtain ⟨wy, hwy⟩ : ∃ x, x = wc := ⟨_, rfl⟩
    subst hwy
    have hpe := hQ.pe
    have hen := fun w h => fend_any w fb cap ao M p' e' h
    have hE : rEnd M p' e' = rEnd M (rAll M 0 0).2.1 (rAll M 0 0).2.2 := by
      have h1 : p' = (rAll M 0 0).2.1 := congrArg Prod.fst hpe
      have h2 : e' = (rAll M 0 0).2.2 := congrArg Prod.snd hpe
      rw [h1, h2]
    clear hD5
    by_cases h0 : rEnd M p' e' = 0
    · rw [h0] at hen
      have he0 : e' = 0 := by
        unfold rEnd at h0
        split at h0
        · cases h0
        · exact h0
      have hm : m' = (rAll M 0 0).1 := hQ.eq he0
      have hsm := rAll_sm M 0 0
      rw [← hm] at hsm
      have HR : Hid (rightR m' (numbersB m') = rightB m') := hiddenR (right_same hsm.ok)
      have hl1 : m'.refs.length ≤ 140737488355328 := by have := hsm.refs; omega
      have hl2 : m'.list.length ≤ 140737488355328 := by have := hsm.list; omega
      have HD0 : Hid (decE M = if rightB m' = true then 0 else 21) := by
        have e : decE M = if rightB m' = true then 0 else 21 := by { unfold decE; rw [← hE, h0, if_neg (by simp), hm] }
        exact e
      have HM : Hid (m' = (rAll M 0 0).1) := hm
      clear hm hE h0 hpe hQ he0
      cases hb : rightB m' with
      | true =>
        have HD1 : Hid (decE M = 0) := by have e : decE M = 0 := by { rw [HD0.out, if_pos hb] }; exact e
        have hrt := fun w h1 h2 => rright_any m' (numbersB m') ro lo rc lc (fun w => rnumbers_any m' ro lo rc lc w) w h1 hl1 h2 hl2
        rw [HR.out, hb] at hrt
        clear hb HR HD0
        go_wp2_with (first
          | (refine load_mat _ rfl (by rfl) _ rfl m' ro lo rc lc hD7.ms ?_)
          | (refine load_mat _ rfl (by rfl) _ rfl m' ro lo rc lc hD6.ms ?_)
          | (go_at_call 44; refine (hen _ hD.rd).mono ?_; rintro r w6 ⟨rfl, hto6⟩; have hD6 := hD.read hto6)
          | (go_at_call 15; refine (hrt w6 hD6.ids hD6.us).mono ?_; rintro r w7 ⟨rfl, hb7⟩; have hD7 := hD6.below hb7; have hlt7 := hD7.lt; have ho1 := hD7.o1; have ho2 := hD7.o2; clear hrt)
          | (refine store_msg _ _ rfl rfl w.heap.size rfl m' ro lo rc lc rfl (by omega) (there_row (cs := zeroCells) hD7.z (Nat.le_refl 19)) ?_; intro w8 hm8 hk8 hsz8))
        (try simp only [Exit.inBlock, Exit.then])
        have r8 := own_keptR hD7.rr hk8 (fun j hj e => by have := (own_geR hD7.rr j hj).1; omega)
        have l8 := own_keptR hD7.rl hk8 (fun j hj e => by have := (own_geR hD7.rl j hj).1; omega)
        have hi8 : IDs w8 ro m'.refs := by
          obtain ⟨ao', cap', e, hi, _⟩ := IDs.ofOwns r8
          cases e
          exact hi
        have hu8 : Us w8 lo m'.list := by
          obtain ⟨ao', cap', e, hi, _⟩ := Us.ofOwns l8
          cases e
          exact hi
        rw [HM.out] at hm8 hi8 hu8
        refine bodyPost_ret (res_msg2 rfl _ rfl hm8) rfl ⟨Or.inr ⟨HD1.out, ro, lo, rc, lc, rfl, hi8, hu8⟩, ?_⟩
        exact hD7.bel.trans (hk8.below (by omega) (fun k hk e => by omega))
      | false =>
        have HD1 : Hid (decE M = 21) := by have e : decE M = 21 := by { rw [HD0.out, if_neg (by rw [hb]; decide)] }; exact e
        have hrt := fun w h1 h2 => rright_any m' (numbersB m') ro lo rc lc (fun w => rnumbers_any m' ro lo rc lc w) w h1 hl1 h2 hl2
        rw [HR.out, hb] at hrt
        clear hb HR HD0
        go_wp2_with (first
          | (refine load_mat _ rfl (by rfl) _ rfl m' ro lo rc lc hD6.ms ?_)
          | (go_at_call 44; refine (hen _ hD.rd).mono ?_; rintro r w6 ⟨rfl, hto6⟩; have hD6 := hD.read hto6)
          | (go_at_call 15; refine (hrt w6 hD6.ids hD6.us).mono ?_; rintro r w7 ⟨rfl, hb7⟩; have hD7 := hD6.below hb7; have hlt7 := hD7.lt; have ho1 := hD7.o1; have ho2 := hD7.o2; clear hrt)
          | (refine store_msg _ _ rfl rfl w.heap.size rfl zeroM none none 0 0 rfl (by omega) (there_row (cs := zeroCells) hD7.z (Nat.le_refl 19)) ?_; intro w8 hm8 hk8 hsz8))
        (try simp only [Exit.inBlock, Exit.then])
        refine bodyPost_ret (res_msg2 rfl _ rfl hm8) rfl ⟨Or.inl ⟨by rw [HD1.out]; decide, by rw [HD1.out]; rfl⟩, ?_⟩
        exact hD7.bel.trans (hk8.below (by omega) (fun k hk e => by omega))
    · have HD0 : Hid (decE M = rEnd M p' e') := by
        have e : decE M = rEnd M p' e' := by { unfold decE; rw [← hE, if_pos h0] }
        exact e
      clear hE hpe hQ
      generalize rEnd M p' e' = E at *
      have t : ((E : Int) == 0) = false := by rw [beq_eq_false_iff_ne]; omega
      have t2 : ((E : Int) != 0) = true := by rw [bne_iff_ne]; omega
      go_wp2_with (first
        | (go_at_call 44; refine (hen _ hD.rd).mono ?_; rintro r w6 ⟨rfl, hto6⟩; have hD6 := hD.read hto6; have hlt6 := hD6.lt; have ho1 := hD6.o1; have ho2 := hD6.o2)
        | (refine store_msg _ _ rfl rfl w.heap.size rfl zeroM none none 0 0 rfl (by omega) (there_row (cs := zeroCells) hD6.z (Nat.le_refl 19)) ?_; intro w7 hm7 hk7 hsz7))
      (try simp only [Exit.inBlock, Exit.then])
      refine bodyPost_ret (res_msg2 rfl _ rfl hm7) rfl ⟨Or.inl ⟨by rw [HD0.out]; exact h0, by rw [HD0.out]; rfl⟩, ?_⟩
      exact hD6.bel.trans (hk7.below (by omega) (fun k hk e => by omega))

end Go.Proofs.Ytcpegfjjdojinaa

