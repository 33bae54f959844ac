/- WireSpoilt: the walk. -/
import Derived.Test.YtcpegfjjdojinaaRDecIP
import Derived.Test.YtcpegfjjdojinaaRBody10P
import Derived.Test.YtcpegfjjdojinaaPick
import Derived.Deep.RegionHeldLaw
namespace Go.Proofs.Ytcpegfjjdojinaa
open Go.RowKit

theorem own_rowS {w : World} {base : Nat} {e : TypeId} {v : Value} {n : Nat} {xs : List Value} (h : w.ownsRow base e 1 v n xs) (hn : 0 < n) :
    ∃ g cap cur, v = .slice (some ⟨g, 0, none⟩) n cap ∧ base ≤ g ∧ w.heap[g]? = some (.cells cur e (0, 0)) ∧ n ≤ cap ∧ cur.toList.take n = xs := by
  obtain ⟨_, ⟨rfl, h0⟩ | ⟨g, cap, cur, rfl, hb, hg, hn, hm, hs, ht⟩⟩ := h
  · omega
  · exact ⟨g, cap, cur, rfl, hb, hg, hn, by simpa using ht⟩

set_option maxRecDepth 40000 in
set_option maxHeartbeats 1000000 in
theorem wspoilt_no (m : Msg) (ro lo : Option Addr) (rc lc : Nat) (how at' t' : Int) (w : World) (hm : m.Ok) (hr : IDs w ro m.refs) (hrl : m.refs.length ≤ 8796093022208) (hl : Us w lo m.list) (hll : m.list.length ≤ 17592186044416) (h : rightB m = false) :
    Calls Try.prog 8 #[m.v ro lo rc lc, .int .i64 how, .int .i64 at', .int .i64 t'] w fun e w' => e = .returned (.bool true) ∧ Below w.heap.size w w' := by
  have hbox := MBox.new w m ro lo rc lc
  have hb0 : Below w.heap.size w (w.alloc (.cells #[.int .i64 m.kind, .int .i64 m.frm, .int .i64 m.to, .int .u64 (m.call : Int), .int .u64 (m.floor : Int), .int .i64 m.op, .int .i64 m.fld, .int .i64 m.item,
    .int .i64 m.tn, .int .u64 (m.ts : Int), .slice ro m.refs.length rc, .int .u64 (m.val : Int), .int .i64 m.code, .int .u64 (m.seq : Int), .int .i64 m.vou, .int .u64 (m.at_ : Int), .int .i64 m.dist, .int .u64 (m.stamp : Int), .slice lo m.list.length lc] 28)) := (Below.refl _ _).alloc (Nat.le_refl _) _
  have hrn := fun w h1 h2 => rencode_no m ro lo rc lc w hm h1 (by omega) h2 (by omega) h
  have hB0 := hbox.mat
  clear h hbox
  go_enter Try.func8, Try.ntmps8
  go_wp2_with (first
    | (refine load_mat _ rfl (by rfl) _ rfl m ro lo rc lc hB0 ?_)
    | (go_at_call 16; refine (hrn _ (hr.below hb0) (hl.below hb0)).mono ?_; clear hrn; rintro e w4 ⟨rfl, hb4⟩; have hB4 := below_alloc hb4)
    | (go_at_call 11; refine (wknown_any _).mono ?_; rintro e w5 ⟨rfl, hb5⟩))
  go_ret
  exact ⟨rfl, hB4.trans (hb5.mono hB4.size)⟩

theorem take_body {cur : List Value} {B sm : List UInt8} {n : Nat} (h : cur.take (n + 4) = (B ++ sm).map bv) (hn : n = B.length) : cur.take B.length = B.map bv := by
  subst hn
  have h1 := congrArg (List.take B.length) h
  rw [List.take_take, Nat.min_eq_left (by omega), List.map_append, List.take_left' (by simp)] at h1
  exact h1
theorem setCell_block {w : World} {g k : Nat} {cur : Array Value} {T : TypeId} (h : w.heap[g]? = some (.cells cur T (0, 0))) (v : Value) : (w.setCell ⟨g, k, none⟩ v).heap[g]? = some (.cells (cur.setIfInBounds k v) T (0, 0)) := by
  have hlt := (Array.getElem?_eq_some_iff.1 h).1
  have hx := (Array.getElem?_eq_some_iff.1 h).2
  simp [World.setCell, hlt, hx, Array.getElem_modify]

theorem mod_u8 (z : Int) : ∃ u : UInt8, z % 256 = (u.toNat : Int) ∧ IntKind.u8.wrap z = (u.toNat : Int) := by
  refine ⟨UInt8.ofNat (z % 256).toNat, ?_, wrap_u8 z⟩
  have h1 := Int.emod_nonneg z (show (256 : Int) ≠ 0 by decide)
  have h2 := Int.emod_lt_of_pos z (show (0 : Int) < 256 by decide)
  rw [UInt8.toNat_ofNat']
  omega
theorem ownE {W : World} {g base : Nat} {T : TypeId} (h : W.heap[g]? = some (.cells #[] T (0, 0))) (hb : base ≤ g) : W.ownsRow base T 1 (.slice (some ⟨g, 0, none⟩) 0 0) 0 (([] : List UInt8).map bv) :=
  ⟨by simp, Or.inr ⟨_, 0, #[], rfl, hb, h, Nat.le_refl _, Nat.zero_le _, by simp, by simp⟩⟩

/-- What is sealed in the end. -/
def SP (w wc : World) (v : Value) : Prop := ∃ l' : List UInt8, Bs wc v l' ∧ l'.length ≤ 20000 ∧ Below w.heap.size w wc

set_option maxRecDepth 40000 in
set_option maxHeartbeats 1000000 in
theorem wspoilt_ok (m : Msg) (ro lo : Option Addr) (rc lc : Nat) (how at' t' : Int) (w : World) (hm : m.Ok) (hr : IDs w ro m.refs) (hl : Us w lo m.list) (h : rightB m = true) :
    Calls Try.prog 8 #[m.v ro lo rc lc, .int .i64 how, .int .i64 at', .int .i64 t'] w fun e w' => e = .returned (.bool true) ∧ Below w.heap.size w w' := by
  obtain ⟨i, hi, hz0, hz1, hz2⟩ := info_parts Try.infoByte
  have hbox := MBox.new w m ro lo rc lc
  have hb0 : Below w.heap.size w (w.alloc (.cells #[.int .i64 m.kind, .int .i64 m.frm, .int .i64 m.to, .int .u64 (m.call : Int), .int .u64 (m.floor : Int), .int .i64 m.op, .int .i64 m.fld, .int .i64 m.item,
    .int .i64 m.tn, .int .u64 (m.ts : Int), .slice ro m.refs.length rc, .int .u64 (m.val : Int), .int .i64 m.code, .int .u64 (m.seq : Int), .int .i64 m.vou, .int .u64 (m.at_ : Int), .int .i64 m.dist, .int .u64 (m.stamp : Int), .slice lo m.list.length lc] 28)) := (Below.refl _ _).alloc (Nat.le_refl _) _
  have hrn := fun w h1 h2 => rencode_own m ro lo rc lc w hm h1 h2 h
  have hsh := body_len h
  have hB0 := hbox.mat
  obtain ⟨B, hBd⟩ : ∃ B, B = bodyB m := ⟨_, rfl⟩
  have hB3 : 3 ≤ B.length := by rw [hBd]; simp [bodyB, headB]
  rw [← hBd] at hrn hsh
  obtain ⟨n, hn⟩ : ∃ n, n = B.length := ⟨_, rfl⟩
  have hlen4 : (B ++ sumBytes (crc B)).length = n + 4 := by rw [List.length_append, length_sumBytes, hn]
  rw [hlen4] at hrn
  have HN : Hid (n = B.length) := hn
  have HS : Hid (sumBytes (crc B) = sumBytes (crc B)) := rfl
  generalize sumBytes (crc B) = sm at *
  have hn1 : 0 < n := by omega
  have hn2 : n ≤ 11000 := by omega
  have hk := pickN_lt at' n hn1
  have hh := pickN_lt how 4 (by omega)
  have hpk := fun w => pick_any at' n hn1 (by omega) w
  obtain ⟨k, hkd⟩ : ∃ k, k = pickN at' n := ⟨_, rfl⟩
  rw [← hkd] at hk hpk
  clear h hbox hBd hn hlen4 hkd HS
  go_enter Try.func8, Try.ntmps8
  go_upto_block 0 with (first
    | (refine load_mat _ rfl (by rfl) _ rfl m ro lo rc lc hB0 ?_)
    | (go_at_call 16; refine (hrn _ (hr.below hb0) (hl.below hb0)).mono ?_; clear hrn; rintro e w4 ⟨v4, gg, hgg, rfl, hv4, hb4⟩; have hB4 := below_alloc hb4; obtain ⟨g4, cap4, cur4, hve, hbg4, hg4, hn4, htk4⟩ := own_rowS hv4 (by omega); subst hve; simp at hgg; clear hv4 hb4)
    | (go_at_call 19; refine (hpk _).mono ?_; clear hpk; rintro e _ ⟨rfl, rfl⟩)
    | (go_at_call 19; refine (pick_any how 4 (by omega) (by omega) _).mono ?_; rintro e _ ⟨rfl, rfl⟩))
  have hBs4 : Bs w4 (.slice (some ⟨g4, 0, none⟩) n cap4) B := by
    rw [HN.out]
    exact Bs.ofBlock hg4 (take_body htk4 HN.out) (by have := HN.out; omega)
  have HTK : Hid (cur4.toList.take B.length = B.map bv) := hiddenR (take_body htk4 HN.out)
  have hg4w : w.heap.size ≤ g4 := by omega
  clear hB0 hb0 hbg4 hgg htk4
  go_cut [9] from 31 to 67 (fun v wc => SP w wc v)
  case first =>
    generalize pickN how 4 = P at *
    obtain ⟨u, hu, hu8⟩ := mod_u8 t'
    have hul := u.toNat_lt
    rcases (by omega : P = 0 ∨ P = 1 ∨ P = 2 ∨ P = 3) with rfl | rfl | rfl | rfl
    · have hkB : k < B.length := by have := HN.out; omega
      have hc4 : w4.cell? ⟨g4, k, none⟩ = some (.int .u8 (B[k].toNat : Int)) := by
        obtain ⟨ao', cap', e, _, hx⟩ := hBs4
        cases e
        obtain ⟨b, off, e2, _, hseg⟩ := hx (by intro e; rw [e] at hkB; simp at hkB)
        cases e2
        simpa using hseg.at k hkB
      have hf4 := frozen_of_row w4 g4 k _ _ hg4
      have hk0 : (k : Int) < (n : Int) := by omega
      go_wp2
      go_meet
      refine ⟨B.set k u, ?_, by simp; omega, hB4.trans ((Below.refl _ _).setCell hg4w _)⟩
      have h5 := setCell_block (k := k) hg4 (bv u)
      have hl5 : (B.set k u).length = B.length := List.length_set ..
      rw [HN.out, ← hl5]
      refine Bs.ofBlock h5 ?_ (by have := HN.out; simp; omega)
      rw [Array.toList_setIfInBounds, hl5, List.take_set, HTK.out, ← List.map_set]
    · have hkc : (k : Int) ≤ (cap4 : Int) := by omega
      have hkn : (k : Int) ≤ (n : Int) := by omega
      have hp1 := hBs4.pre k (by have := HN.out; omega)
      have hp2 : Bs w4 (.slice (some ⟨g4, k, none⟩) (n - k) (cap4 - k)) (B.drop k) := by
        have h := hBs4.post k (by have := HN.out; omega)
        rw [← HN.out] at h
        have e : (⟨g4, 0, none⟩ : Addr).add k = ⟨g4, k, none⟩ := by rw [Addr.add_at, Nat.zero_add]
        rw [Option.map_some, e] at h
        exact h
      have hkc2 : ¬ cap4 = k := by omega
      have hkc3 : ¬ cap4 - k = 0 := by omega
      have HL1 : Hid ((B.take k).length = k) := by have e : (B.take k).length = k := by { rw [List.length_take]; have := HN.out; omega }; exact e
      have q1 : ∀ o, Below w4.heap.size w4 (w4.alloc o).drew := fun o => ((Below.refl _ _).alloc (Nat.le_refl _) o).drew
      have q2 : ∀ o o', Below w4.heap.size w4 ((w4.alloc o).alloc o').drew := fun o o' => (((Below.refl _ _).alloc (Nat.le_refl _) o).alloc (by simp) o').drew
      have hU2 : ∀ o, Bs ((w4.alloc o).alloc (.cells #[.int .u8 (u.toNat : Int)] 5)).drew (.slice (some ⟨w4.heap.size + 1, 0, none⟩) 1 1) [u] := fun o => by
        have h := Bs.one (w4.alloc o) u 5
        rw [World.size_alloc] at h
        exact h
      have hU3 : ∀ o, Bs ((w4.alloc (.cells #[.int .u8 (u.toNat : Int)] 5)).alloc o).drew (.slice (some ⟨w4.heap.size, 0, none⟩) 1 1) [u] := fun o => (Bs.one w4 u 5).below ((Below.refl _ _).alloc (Nat.le_refl _) o).drew
      have hE1 : (w4.alloc (.cells #[] 5)).drew.heap[w4.heap.size]? = some (.cells #[] 5 (0, 0)) := heap_alloc_new w4 _
      have hE2 : ∀ o, ((w4.alloc (.cells #[] 5)).alloc o).drew.heap[w4.heap.size]? = some (.cells #[] 5 (0, 0)) := fun o => (Below.heap_alloc _ _ _ (by simp)).trans (heap_alloc_new w4 _)
      have hE3 : ∀ o, ((w4.alloc o).alloc (.cells #[] 5)).drew.heap[w4.heap.size + 1]? = some (.cells #[] 5 (0, 0)) := fun o => by
        have h := heap_alloc_new (w4.alloc o) (.cells #[] 5)
        rw [World.size_alloc] at h
        exact h
      go_wp2
      go_region_law (first
        | (refine step_append_bs rfl (.tmp 43) (.tmp 46) 29 rfl w4.heap.size 5 i Try.underlying29 hi hz0 hz1 hz2 (.slice (some ⟨w4.heap.size, 0, none⟩) 0 0) 0 [] rfl rfl (ownE (g := w4.heap.size) (hE1) (by omega)) _ rfl (B.take k) (hp1.below (q1 _)) (by rw [HL1.out]; omega) (by simp [World.drew]) ?_; intro v5 w5 ho5 hk5 hm5; have hb5 : Below w4.heap.size w4 w5 := (q1 _).trans (kept_new hk5 (by simp [World.drew]) (by omega)); have hs5 := hb5.size)
        | (refine step_append_bs rfl (.tmp 43) (.tmp 46) 29 rfl w4.heap.size 5 i Try.underlying29 hi hz0 hz1 hz2 (.slice (some ⟨w4.heap.size, 0, none⟩) 0 0) 0 [] rfl rfl (ownE (g := w4.heap.size) (hE2 _) (by omega)) _ rfl (B.take k) (hp1.below (q2 _ _)) (by rw [HL1.out]; omega) (by simp [World.drew]; omega) ?_; intro v5 w5 ho5 hk5 hm5; have hb5 : Below w4.heap.size w4 w5 := (q2 _ _).trans (kept_new hk5 (by simp [World.drew]; omega) (by omega)); have hs5 := hb5.size; have hU5 : Bs w5 (.slice (some ⟨w4.heap.size + 1, 0, none⟩) 1 1) [u] := Bs.kept (w := ((w4.alloc (.cells #[] 5)).alloc (.cells #[.int .u8 (u.toNat : Int)] 5)).drew) (hU2 _) hk5 (fun j _ hj _ e => by simp only [Value.ownBlock, Option.some.injEq] at hj e; omega))
        | (refine step_append_bs rfl (.tmp 43) (.tmp 46) 29 rfl w4.heap.size 5 i Try.underlying29 hi hz0 hz1 hz2 (.slice (some ⟨w4.heap.size + 1, 0, none⟩) 0 0) 0 [] rfl rfl (ownE (g := w4.heap.size + 1) (hE3 _) (by omega)) _ rfl (B.take k) (hp1.below (q2 _ _)) (by rw [HL1.out]; omega) (by simp [World.drew]; omega) ?_; intro v5 w5 ho5 hk5 hm5; have hb5 : Below w4.heap.size w4 w5 := (q2 _ _).trans (kept_new hk5 (by simp [World.drew]; omega) (by omega)); have hs5 := hb5.size; have hU5 : Bs w5 (.slice (some ⟨w4.heap.size, 0, none⟩) 1 1) [u] := Bs.kept (w := ((w4.alloc (.cells #[.int .u8 (u.toNat : Int)] 5)).alloc (.cells #[] 5)).drew) (hU3 _) hk5 (fun j _ hj _ e => by simp only [Value.ownBlock, Option.some.injEq] at hj e; omega))
        | (refine step_append_bs rfl (.tmp 47) (.tmp 50) 29 rfl w4.heap.size 5 i Try.underlying29 hi hz0 hz1 hz2 v5 _ ([] ++ B.take k) rfl rfl ho5 _ rfl [u] hU5 (by simp [HL1.out]; omega) hs5 ?_; intro v6 w6 ho6 hk6 hm6; have hb6 : Below w4.heap.size w4 w6 := hb5.trans (hk6.below hs5 (fun j hj e => by have := (own_geR ho5 j e).1; omega)); have hs6 := hb6.size)
        | (refine step_append_bs rfl (.tmp 47) (.tmp 50) 29 rfl w4.heap.size 5 i Try.underlying29 hi hz0 hz1 hz2 v5 _ ([] ++ B.take k) rfl rfl (own_keptR ho5 (Kept.alloc w5 _ (fun _ => False)) (fun _ _ => id)) _ rfl [u] (Bs.one w5 u _) (by simp [HL1.out]; omega) (by simp; omega) ?_; intro v6 w6 ho6 hk6 hm6; have hb6 : Below w4.heap.size w4 w6 := (hb5.alloc hs5 _).trans (hk6.below (by simp; omega) (fun j hj e => by have := (own_geR ho5 j e).1; omega)); have hs6 := hb6.size)
        | (refine step_append_bs rfl (.tmp 51) (.tmp 54) 29 rfl w4.heap.size 5 i Try.underlying29 hi hz0 hz1 hz2 v6 _ ([] ++ B.take k ++ [u]) rfl rfl ho6 _ rfl (B.drop k) (hp2.below hb6) (by simp [HL1.out]; have := HN.out; omega) hs6 ?_; intro v7 w7 ho7 hk7 hm7; have hb7 : Below w4.heap.size w4 w7 := hb6.trans (hk7.below hs6 (fun j hj e => by have := (own_geR ho6 j e).1; omega))))
      all_goals
        go_wp2
        go_meet
        exact ⟨[] ++ B.take k ++ [u] ++ B.drop k, Bs.ofOwns ho7, by simp [HL1.out]; omega, hB4.trans (hb7.mono hB4.size)⟩
    · have hkc : (k : Int) ≤ (cap4 : Int) := by omega
      have hkn : (k : Int) ≤ (n : Int) := by omega
      have hkn1 : (k : Int) + 1 ≤ (n : Int) := by omega
      have hkn0 : (0 : Int) ≤ (k : Int) + 1 := by omega
      have hp1 := hBs4.pre k (by have := HN.out; omega)
      have hp3 : Bs w4 (.slice (some ⟨g4, k + 1, none⟩) (n - (k + 1)) (cap4 - (k + 1))) (B.drop (k + 1)) := by
        have h := hBs4.post (k + 1) (by have := HN.out; omega)
        rw [← HN.out] at h
        have e : (⟨g4, 0, none⟩ : Addr).add (k + 1) = ⟨g4, k + 1, none⟩ := by rw [Addr.add_at, Nat.zero_add]
        rw [Option.map_some, e] at h
        exact h
      have hkc2 : ¬ cap4 = k + 1 := by omega
      have hkc3 : ¬ cap4 - (k + 1) = 0 := by omega
      have hwk : IntKind.i64.wrap ((k : Int) + 1) = (k : Int) + 1 := by rw [IntKind.wrap_i64]; omega
      have HL1 : Hid ((B.take k).length = k) := by have e : (B.take k).length = k := by { rw [List.length_take]; have := HN.out; omega }; exact e
      have q1 : ∀ o, Below w4.heap.size w4 (w4.alloc o).drew := fun o => ((Below.refl _ _).alloc (Nat.le_refl _) o).drew
      have hE1 : (w4.alloc (.cells #[] 5)).drew.heap[w4.heap.size]? = some (.cells #[] 5 (0, 0)) := heap_alloc_new w4 _
      go_wp2
      go_region_law (first
        | (refine step_append_bs rfl (.tmp 58) (.tmp 61) 29 rfl w4.heap.size 5 i Try.underlying29 hi hz0 hz1 hz2 (.slice (some ⟨w4.heap.size, 0, none⟩) 0 0) 0 [] rfl rfl (ownE (g := w4.heap.size) hE1 (by omega)) _ rfl (B.take k) (hp1.below (q1 _)) (by rw [HL1.out]; omega) (by simp [World.drew]) ?_; intro v5 w5 ho5 hk5 hm5; have hb5 : Below w4.heap.size w4 w5 := (q1 _).trans (kept_new hk5 (by simp [World.drew]) (by omega)); have hs5 := hb5.size)
        | (refine step_append_bs rfl (.tmp 62) (.tmp 66) 29 rfl w4.heap.size 5 i Try.underlying29 hi hz0 hz1 hz2 v5 _ ([] ++ B.take k) rfl rfl ho5 _ rfl (B.drop (k + 1)) (hp3.below hb5) (by simp [HL1.out]; have := HN.out; omega) hs5 ?_; intro v7 w7 ho7 hk7 hm7; have hb7 : Below w4.heap.size w4 w7 := hb5.trans (hk7.below hs5 (fun j hj e => by have := (own_geR ho5 j e).1; omega))))
      all_goals
        go_wp2
        go_meet
        exact ⟨[] ++ B.take k ++ B.drop (k + 1), Bs.ofOwns ho7, by simp [HL1.out]; omega, hB4.trans (hb7.mono hB4.size)⟩
    · have hkc : (k : Int) ≤ (cap4 : Int) := by omega
      go_wp2
      go_meet
      exact ⟨_, hBs4.pre k (by have := HN.out; omega), by simp; omega, hB4⟩
  case rest =>
    obtain ⟨l', hs', hl', hb'⟩ := hcut
    obtain ⟨wy, hwy⟩ : ∃ x, x = wc := ⟨_, rfl⟩
    subst hwy
    obtain ⟨ao9, cap9, hve9, _⟩ := id hs'
    subst hve9
    go_wp2_with (go_at_call 7; refine (wireSealed_any _ l' _ hs' (by omega)).mono ?_; rintro e w9 ⟨rfl, hb9⟩)
    go_ret
    exact ⟨rfl, hb'.trans (hb9.mono hb'.size)⟩

theorem wspoilt_any (m : Msg) (ro lo : Option Addr) (rc lc : Nat) (how at' t' : Int) (w : World) (hm : m.Ok) (hr : IDs w ro m.refs) (hrl : m.refs.length ≤ 8796093022208) (hl : Us w lo m.list) (hll : m.list.length ≤ 17592186044416) :
    Calls Try.prog 8 #[m.v ro lo rc lc, .int .i64 how, .int .i64 at', .int .i64 t'] w fun e w' => e = .returned (.bool true) ∧ Below w.heap.size w w' := by
  cases h : rightB m with
  | false => exact wspoilt_no m ro lo rc lc how at' t' w hm hr hrl hl hll h
  | true => exact wspoilt_ok m ro lo rc lc how at' t' w hm hr hl h

end Go.Proofs.Ytcpegfjjdojinaa
