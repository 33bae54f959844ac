/- The law's own 'same' and 'known'. -/
import Derived.Test.YtibgpbflchfbnaaNtI
namespace Go.Proofs.Ytibgpbflchfbnaa
open Go.RowKit

theorem Dgs.one {w : World} {g : Nat} {d : Dg} {v : Value} {T : TypeId} (hg : w.heap[g]? = some (.cells #[.int .i64 d.frm, .int .i64 d.to, v] T (0, 0))) (hv : Bs w v d.b) : Dgs w (.slice (some ⟨g, 0, none⟩) 1 1) [d] :=
  Dgs.ofBlock (rs := [(d, v)]) (ds := [d]) rfl hg rfl (Nat.le_refl _) (fun r hr => by rw [List.mem_singleton.1 hr]; exact hv)

set_option maxRecDepth 20000 in
set_option maxHeartbeats 1000000 in
theorem same_same (d : Dg) (v u : Value) (w : World) (hv : Bs w v d.b) (hu : Bs w u d.b) :
    Calls Try.prog 16 #[dgV d v, dgV d u] w fun e w' => e = .returned (.bool true) ∧ Below w.heap.size w w' := by
  obtain ⟨ao, ac, rfl⟩ := hv.slice
  obtain ⟨bo, bc, rfl⟩ := hu.slice
  go_enter Try.func16, Try.ntmps16
  go_wp2_with fail
  have hB : ∀ o1 o2 o3 o4 : Obj, Below w.heap.size w ((((w.alloc o1).alloc o2).alloc o3).alloc o4) := fun o1 o2 o3 o4 =>
    ((((Below.refl _ _).alloc (Nat.le_refl _) _).alloc (by simp) _).alloc (by simp; omega) _).alloc (by simp; omega) _
  have hx : ∀ o1 o2 o3 o4 : Obj, ((((w.alloc o1).alloc o2).alloc o3).alloc o4).heap[w.heap.size + 1 + 1]? = some o3 := fun o1 o2 o3 o4 => by
    rw [Below.heap_alloc _ _ _ (by simp)]
    have e : ((w.alloc o1).alloc o2).heap.size = w.heap.size + 1 + 1 := by simp
    rw [← e]
    exact heap_alloc_new _ _
  have hy : ∀ o1 o2 o3 o4 : Obj, ((((w.alloc o1).alloc o2).alloc o3).alloc o4).heap[w.heap.size + 1 + 1 + 1]? = some o4 := fun o1 o2 o3 o4 => by
    have e : (((w.alloc o1).alloc o2).alloc o3).heap.size = w.heap.size + 1 + 1 + 1 := by simp
    rw [← e]
    exact heap_alloc_new _ _
  refine (datagrams_same _ _ [d] _ (Dgs.one (hx _ _ _ _) (hv.below (hB _ _ _ _))) (Dgs.one (hy _ _ _ _) (hu.below (hB _ _ _ _))) (by simp)).mono ?_
  rintro e w1 ⟨rfl, hb1⟩
  have hb := (hB _ _ _ _).trans (hb1.mono (by simp; omega))
  clear hx hy hB hb1
  go_wp2
  go_ret
  exact ⟨rfl, hb⟩

theorem lit_bs (w : World) (x : UInt8) (fr : Nat × Nat) : Bs (w.alloc (.cells #[.int .u8 (x.toNat : Int)] 5 fr)) (.slice (some ⟨w.heap.size, 0, none⟩) 1 1) [x] :=
  Bs.ofBlock (l := [x]) (heap_alloc_new w _) rfl (by simp)

/-- Two datagrams of one byte each are sent, the rest is as it was. -/
theorem kept_new {w w1 w2 : World} {F : Nat → Prop} (hb : Below w.heap.size w w1) (hF : ∀ k, F k → w.heap.size ≤ k) (hk : Kept w1 w2 F) : Below w.heap.size w w2 :=
  hb.trans (hk.below hb.size (fun i hi e => by have := hF i e; omega))
theorem grown_new {w w1 : World} {F F' : Nat → Prop} (hs : w.heap.size ≤ w1.heap.size) (hF : ∀ k, F k → w.heap.size ≤ k) (hg : Grown w1 F F') : ∀ k, F' k → w.heap.size ≤ k := fun k hk => by
  rcases hg k hk with h | h
  · exact hF k h
  · omega

set_option maxRecDepth 20000 in
set_option maxHeartbeats 1000000 in
theorem nknown_any (w : World) : Calls Try.prog 9 #[] w fun e w' => e = .returned (.bool true) ∧ Below w.heap.size w w' := by
  have kc := fun (w : World) (C : Array Value) (n c : Nat) => Lib.run_convert_bytes_const (P := Try.prog) w 28 5 C n c Try.underlying28 Try.underlying5
  go_enter Try.func9, Try.ntmps9
  go_wp2_with fail
  refine (nsnew 2 (by omega) (by omega) w).mono ?_
  rintro e w1 ⟨rfl, hn1, hb1⟩
  have hF1 : ∀ k, (fun k => k = w.heap.size) k → w.heap.size ≤ k := fun k hk => by have e : k = w.heap.size := hk; omega
  go_wp2_with fail
  have hA1 : ∀ o, Below w1.heap.size w1 (w1.alloc o) := fun o => (Below.refl _ _).alloc (Nat.le_refl _) _
  refine (nssend w.heap.size 2 0 [] _ ⟨1, 2, [97]⟩ _ _ (hn1.below (hA1 _)) (lit_bs w1 97 _) (by omega) (by omega)).mono ?_
  rintro e w2 ⟨F2, rfl, hn2, hk2, hg2⟩
  rw [show sendB 2 [] ⟨1, 2, [97]⟩ = true from rfl]
  have hn2' : NS w2 w.heap.size 2 0 [⟨1, 2, [97]⟩] F2 := hn2
  have hb2 := kept_new (hb1.trans ((hA1 _).mono hb1.size)) hF1 hk2
  have hF2 := grown_new (by have := hb1.size; simp; omega) hF1 hg2
  clear hn1 hb1 hA1 hn2 hk2 hg2 hF1
  go_wp2_with fail
  have hA1 : ∀ o, Below w2.heap.size w2 (w2.alloc o) := fun o => (Below.refl _ _).alloc (Nat.le_refl _) _
  refine (nssend w.heap.size 2 0 [⟨1, 2, [97]⟩] _ ⟨2, 1, [98]⟩ _ _ (hn2'.below (hA1 _)) (lit_bs w2 98 _) (by omega) (by omega)).mono ?_
  rintro e w3 ⟨F3, rfl, hn3, hk3, hg3⟩
  rw [show sendB 2 [⟨1, 2, [97]⟩] ⟨2, 1, [98]⟩ = true from rfl]
  have hn3' : NS w3 w.heap.size 2 0 [⟨1, 2, [97]⟩, ⟨2, 1, [98]⟩] F3 := hn3
  have hb3 := kept_new (hb2.trans ((hA1 _).mono hb2.size)) hF2 hk3
  have hF3 := grown_new (by have := hb2.size; simp; omega) hF2 hg3
  clear hn2' hb2 hA1 hn3 hk3 hg3 hF2
  go_wp2_with fail
  refine (nssend w.heap.size 2 0 [⟨1, 2, [97]⟩, ⟨2, 1, [98]⟩] _ ⟨0, 0, []⟩ _ _ hn3' (Bs.nil _) (by omega) (by omega)).mono ?_
  rintro e w4 ⟨F4, rfl, hn4, hk4, hg4⟩
  rw [show sendB 2 [⟨1, 2, [97]⟩, ⟨2, 1, [98]⟩] ⟨0, 0, []⟩ = false from rfl]
  have hn4' : NS w4 w.heap.size 2 1 [⟨1, 2, [97]⟩, ⟨2, 1, [98]⟩] F4 := hn4
  have hb4 := kept_new hb3 hF3 hk4
  clear hn3' hb3 hn4 hk4 hg4 hF3
  go_wp2_with fail
  refine (nslen w.heap.size 2 1 _ F4 w4 hn4').mono ?_
  rintro e w5 ⟨rfl, rfl⟩
  go_wp2_with fail
  refine (nslost w.heap.size 2 1 _ F4 w4 hn4').mono ?_
  rintro e w5 ⟨rfl, rfl⟩
  go_wp2
  go_ret
  exact ⟨rfl, hb4⟩

end Go.Proofs.Ytibgpbflchfbnaa
