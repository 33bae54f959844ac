/- The law's whole: both heaps tell the same. -/
import Derived.Test.YthjbbghmmikmmaaDoorHpZ
import Derived.Test.YthjbbghmmikmmaaDoorHpSm
import Derived.Deep.CutRange
import Derived.Deep.CutBlock
import Derived.Deep.RegionHeld
namespace Go.Proofs.YthjbbghmmikmmaaDoor
open Go.RowKit

/-- Behind k objects, at serial a. -/
def AtK (cs : List Oc) (M : List Pl) (k a : Nat) : Prop := (∀ (hk : k < M.length), nextR cs a = (M[k].o.s, true)) ∧ (M.length ≤ k → nextR cs a = (0, false))
theorem at_k {M : List Pl} (hs : (M.map (·.o)).Pairwise (fun a b => a.s < b.s)) {k a : Nat} (h1 : ∀ j (hj : j < M.length), j < k → M[j].o.s ≤ a) (h2 : ∀ j (hj : j < M.length), k ≤ j → a < M[j].o.s) : AtK (M.map (·.o)) M k a := by
  have hp := hs
  rw [List.pairwise_map, List.pairwise_iff_getElem] at hp
  refine ⟨fun hk => ?_, fun hk => ?_⟩
  · refine nextR_some hs (List.mem_map.2 ⟨_, List.getElem_mem hk, rfl⟩) (h2 k hk (Nat.le_refl _)) (fun q hq hq' => ?_)
    obtain ⟨p, hp', rfl⟩ := List.mem_map.1 hq
    obtain ⟨j, hj, rfl⟩ := List.mem_iff_getElem.1 hp'
    by_cases hjk : j < k
    · have := h1 j hj hjk
      omega
    · by_cases e : j = k
      · subst e; exact Nat.le_refl _
      · exact Nat.le_of_lt (hp k j hk hj (by omega))
  · refine nextR_none (fun q hq => ?_)
    obtain ⟨p, hp', rfl⟩ := List.mem_map.1 hq
    obtain ⟨j, hj, rfl⟩ := List.mem_iff_getElem.1 hp'
    exact h1 j hj (by omega)

section
variable {w : World} {rb ra rc rt : Nat} {lv : Value} {h : HSt} {M : List Pl}
theorem RX.at0 (x : RX w rb ra rc rt lv h M) : AtK h.cs M 0 0 := by
  have := at_k (k := 0) (a := 0) x.srt (fun j hj e => by omega) (fun j hj _ => by
    have := x.ok.le M[j].o (by rw [← x.cs]; exact List.mem_map.2 ⟨_, List.getElem_mem hj, rfl⟩)
    omega)
  rwa [x.cs] at this
theorem RX.atS (x : RX w rb ra rc rt lv h M) (k : Nat) (hk : k < M.length) : AtK h.cs M (k + 1) M[k].o.s := by
  have hp := x.srt
  rw [List.pairwise_map, List.pairwise_iff_getElem] at hp
  have := at_k (k := k + 1) (a := M[k].o.s) x.srt (fun j hj e => by
    by_cases e2 : j = k
    · subst e2; exact Nat.le_refl _
    · exact Nat.le_of_lt (hp j k hj hk (by omega))) (fun j hj e => hp k j hk hj (by omega))
  rwa [x.cs] at this
theorem RX.getK (x : RX w rb ra rc rt lv h M) (k : Nat) (hk : k < M.length) : getC h.cs M[k].o.s = some M[k].o := by
  have hp := x.srt
  rw [List.pairwise_map, List.pairwise_iff_getElem] at hp
  rw [x.get, getP_first hk (fun p hp' => ?_) rfl]
  · rfl
  · obtain ⟨j, hj, rfl⟩ := List.mem_take_iff_getElem.1 hp'
    have := hp j k (by omega) hk (by omega)
    omega
theorem RX.getL (x : RX w rb ra rc rt lv h M) : getC h.cs (h.last + 1) = none := by
  cases hg : getC h.cs (h.last + 1) with
  | none => rfl
  | some o =>
    have hm : o ∈ h.cs := List.mem_of_find?_eq_some hg
    have hs : (o.s == h.last + 1) = true := List.find?_some (p := fun o : Oc => o.s == h.last + 1) hg
    have := (x.ok.le o hm).2
    rw [beq_iff_eq] at hs
    omega
end

section
variable {w0 w : World} {B hb rb : Nat} {h : HSt} {X : Nat → Prop}
set_option maxRecDepth 20000 in
set_option maxHeartbeats 8000000 in
theorem whole_any (x : H2 w0 B w hb rb h h X) :
    Calls Tryd.prog 19 #[.pointer (some ⟨hb, 0, none⟩), .pointer (some ⟨rb, 0, none⟩)] w fun e w' => e = .returned (.bool true) ∧ Below w.heap.size w w' := by
  obtain ⟨F, G, hp, rp, _, _⟩ := x.ex
  obtain ⟨ra, rc, rt, lv, M, rx, _⟩ := rp.ex
  have hfew := rx.few
  have hlast := rx.ok.last
  obtain ⟨ao, cap, hlv, hcap, _, _⟩ := rx.slice
  have hN := fun W (hW : Below w.heap.size w W) a => (hp.below hW).next a
  clear x rp
  go_enter Tryd.func19, Tryd.ntmps19
  go_wp2
  go_loopw [5, 6] (fun a i wr => ∃ k aN : Nat, k ≤ M.length ∧ a = .int .u64 (aN : Int) ∧ i = .int .i64 (k : Int) ∧ AtK h.cs M k aN ∧ Below w.heap.size w wr) (fun _ i _ => M.length - (intOf i).toNat)
  case atStart => exact ⟨0, 0, Nat.zero_le _, rfl, rfl, rx.at0, Below.refl _ _⟩
  case round =>
    obtain ⟨k, aN, hk, rfl, rfl, hat, hbr⟩ := hrel
    have hzr := hbr.size
    have rxr := rx.below hbr
    have c4 := rxr.c4
    by_cases hlt : k < M.length
    · have hki : (k : Int) < (M.length : Int) := by omega
      obtain ⟨g, cap', hlv', hcap', hgl, hcell⟩ := rx.at k hlt
      have hNx := hN wr hbr aN
      rw [hat.1 hlt] at hNx
      have hO := fun W (hW : Below w.heap.size w W) => (hp.below hW).objOk M[k].o.s (by have := (rx.ok.le M[k].o (by rw [← rx.cs]; exact List.mem_map.2 ⟨_, List.getElem_mem hlt, rfl⟩)).2; omega) M[k].o (rx.getK k hlt)
      unfold Pl.v at hO
      simp only at hO
      have hfl := rx.fl (List.getElem_mem hlt)
      have hrow := rx.rows _ (List.getElem_mem hlt)
      have HA : Hid (AtK h.cs M (k + 1) M[k].o.s) := rx.atS k hlt
      rw [hlv'] at c4
      have hc4 : ∀ W, Below w.heap.size w W → W.cell? ⟨rb, 4, none⟩ = some (.slice (some ⟨g, 0, none⟩) M.length cap') ∧ W.cell? ⟨g, k, none⟩ = some (.pointer (some ⟨M[k].pb, 0, none⟩)) ∧ W.cell? ⟨M[k].pb, 0, none⟩ = some (.int .u64 (M[k].o.s : Int)) ∧ W.cell? ⟨M[k].pb, 1, none⟩ = some (.int .i64 (M[k].o.c : Int)) ∧ W.cell? ⟨M[k].pb, 2, none⟩ = some (.slice (some ⟨M[k].rb, 0, none⟩) M[k].o.rf.length M[k].o.rf.length) ∧ W.cell? ⟨M[k].pb, 3, none⟩ = some (.slice (some ⟨M[k].vb, 0, none⟩) M[k].o.vl.length M[k].o.vl.length) ∧ W.cell? ⟨M[k].pb, 4, none⟩ = some (.int .i64 (M[k].o.d : Int)) := fun W hW => by
        have rW := rx.below hW
        have e4 := rW.c4
        obtain ⟨g', c', e1, _, _, e2⟩ := rW.at k hlt
        rw [hlv'] at e1
        cases e1
        rw [hlv'] at e4
        exact ⟨e4, e2 k hlt, rW.pc (List.getElem_mem hlt) 0 _ rfl, rW.pc (List.getElem_mem hlt) 1 _ rfl, rW.pc (List.getElem_mem hlt) 2 _ rfl, rW.pc (List.getElem_mem hlt) 3 _ rfl, rW.pc (List.getElem_mem hlt) 4 _ rfl⟩
      have hrI : ∀ W, Below w.heap.size w W → Row W M[k].rb 31 (idsV M[k].o.rf) ∧ Row W M[k].vb 26 (M[k].o.vl.map uV) := fun W hW => ⟨hrow.2.1.below hW, hrow.2.2.below hW⟩
      clear hrow hlv hlv' rxr rx hN hat hcell hp
      generalize hPM : M[k] = p at *
      clear hPM
      have hq1 : ((p.o.s : Int) != (p.o.s : Int)) = false := bne_self_eq_false _
      go_wp2_with fail
      refine hNx.mono ?_
      rintro e w2 ⟨rfl, hb2⟩
      have b2 : Below w.heap.size w w2 := hbr.trans (hb2.mono hzr)
      clear hNx hb2
      obtain ⟨e4, eg, ep, _, _, _, _⟩ := hc4 _ b2
      go_wp2_with fail
      refine (hO _ b2).mono ?_
      rintro e w3 ⟨g1, g2, rfl, r1, r2, _, _, hb3⟩
      have b3 : Below w.heap.size w w3 := b2.trans (hb3.mono b2.size)
      clear hO hb3 e4 eg ep c4
      have hA : ∀ o, Below w3.heap.size w3 (w3.alloc o) := fun o => (Below.refl _ _).alloc (Nat.le_refl _) o
      have qb : Row (w3.alloc (.cells #[.int .u64 (p.o.s : Int), .int .i64 (p.o.c : Int), .slice (some ⟨g1, 0, none⟩) p.o.rf.length p.o.rf.length, .slice (some ⟨g2, 0, none⟩) p.o.vl.length p.o.vl.length, .int .i64 (p.o.d : Int)] 50)) w3.heap.size 50 [.int .u64 (p.o.s : Int), .int .i64 (p.o.c : Int), .slice (some ⟨g1, 0, none⟩) p.o.rf.length p.o.rf.length, .slice (some ⟨g2, 0, none⟩) p.o.vl.length p.o.vl.length, .int .i64 (p.o.d : Int)] := heap_alloc_new w3 _
      have b4 : Below w.heap.size w (w3.alloc (.cells #[.int .u64 (p.o.s : Int), .int .i64 (p.o.c : Int), .slice (some ⟨g1, 0, none⟩) p.o.rf.length p.o.rf.length, .slice (some ⟨g2, 0, none⟩) p.o.vl.length p.o.vl.length, .int .i64 (p.o.d : Int)] 50)) := b3.trans ((hA _).mono b3.size)
      obtain ⟨w4, hw4⟩ : ∃ W, W = w3.alloc (.cells #[.int .u64 (p.o.s : Int), .int .i64 (p.o.c : Int), .slice (some ⟨g1, 0, none⟩) p.o.rf.length p.o.rf.length, .slice (some ⟨g2, 0, none⟩) p.o.vl.length p.o.vl.length, .int .i64 (p.o.d : Int)] 50) := ⟨_, rfl⟩
      have s1 : Row w4 g1 31 (idsV p.o.rf) := by rw [hw4]; exact r1.below (hA _)
      have s2 : Row w4 g2 26 (p.o.vl.map uV) := by rw [hw4]; exact r2.below (hA _)
      rw [← hw4] at qb b4
      go_wp2_with fail
      rw [← hw4]
      have hz3 : w3.heap.size < w4.heap.size := qb.lt
      generalize w3.heap.size = gB at *
      clear r1 r2 b3 b2 hA
      have HC : Hid (∀ W, Below w4.heap.size w4 W → W.cell? ⟨gB, 0, none⟩ = some (.int .u64 (p.o.s : Int)) ∧ W.cell? ⟨gB, 1, none⟩ = some (.int .i64 (p.o.c : Int)) ∧ W.cell? ⟨gB, 2, none⟩ = some (.slice (some ⟨g1, 0, none⟩) p.o.rf.length p.o.rf.length) ∧ W.cell? ⟨gB, 3, none⟩ = some (.slice (some ⟨g2, 0, none⟩) p.o.vl.length p.o.vl.length) ∧ W.cell? ⟨gB, 4, none⟩ = some (.int .i64 (p.o.d : Int)) ∧ W.cell? ⟨rb, 4, none⟩ = some (.slice (some ⟨g, 0, none⟩) M.length cap') ∧ W.cell? ⟨g, k, none⟩ = some (.pointer (some ⟨p.pb, 0, none⟩)) ∧ W.cell? ⟨p.pb, 0, none⟩ = some (.int .u64 (p.o.s : Int)) ∧ W.cell? ⟨p.pb, 1, none⟩ = some (.int .i64 (p.o.c : Int)) ∧ W.cell? ⟨p.pb, 2, none⟩ = some (.slice (some ⟨p.rb, 0, none⟩) p.o.rf.length p.o.rf.length) ∧ W.cell? ⟨p.pb, 3, none⟩ = some (.slice (some ⟨p.vb, 0, none⟩) p.o.vl.length p.o.vl.length) ∧ W.cell? ⟨p.pb, 4, none⟩ = some (.int .i64 (p.o.d : Int))) := fun W hW => by
        obtain ⟨e1, e2, e3, e4, e5, e6, e7⟩ := hc4 W (b4.trans (hW.mono b4.size))
        have qW := qb.below hW
        exact ⟨qW.cell 0 (by simp), qW.cell 1 (by simp), qW.cell 2 (by simp), qW.cell 3 (by simp), qW.cell 4 (by simp), e1, e2, e3, e4, e5, e6, e7⟩
      have hSm := sameO_any p.o g1 g2 p.rb p.vb w4.drew (s1.below ((Below.refl _ _).drew)) (s2.below ((Below.refl _ _).drew)) (hrI _ (b4.trans (((Below.refl _ _).drew).mono b4.size))).1 (hrI _ (b4.trans (((Below.refl _ _).drew).mono b4.size))).2 hfl.1 hfl.2.1
      unfold Pl.v at hSm
      simp only at hSm
      clear hw4 s1 s2 qb hc4 hrI
      obtain ⟨t0, t1, t2, t3, t4, u1, u2, u3, u4, u5, u6, u7⟩ := HC.out _ (Below.refl _ _)
      go_region_held (fun W => W.cell? ⟨gB, 0, none⟩ = some (.int .u64 (p.o.s : Int)) ∧ W.cell? ⟨gB, 1, none⟩ = some (.int .i64 (p.o.c : Int)) ∧ W.cell? ⟨gB, 2, none⟩ = some (.slice (some ⟨g1, 0, none⟩) p.o.rf.length p.o.rf.length) ∧ W.cell? ⟨gB, 3, none⟩ = some (.slice (some ⟨g2, 0, none⟩) p.o.vl.length p.o.vl.length) ∧ W.cell? ⟨gB, 4, none⟩ = some (.int .i64 (p.o.d : Int)) ∧ W.cell? ⟨rb, 4, none⟩ = some (.slice (some ⟨g, 0, none⟩) M.length cap') ∧ W.cell? ⟨g, k, none⟩ = some (.pointer (some ⟨p.pb, 0, none⟩)) ∧ W.cell? ⟨p.pb, 0, none⟩ = some (.int .u64 (p.o.s : Int)) ∧ W.cell? ⟨p.pb, 1, none⟩ = some (.int .i64 (p.o.c : Int)) ∧ W.cell? ⟨p.pb, 2, none⟩ = some (.slice (some ⟨p.rb, 0, none⟩) p.o.rf.length p.o.rf.length) ∧ W.cell? ⟨p.pb, 3, none⟩ = some (.slice (some ⟨p.vb, 0, none⟩) p.o.vl.length p.o.vl.length) ∧ W.cell? ⟨p.pb, 4, none⟩ = some (.int .i64 (p.o.d : Int))) (go_keep) ((go_at_call 41; refine hSm.mono ?_; rintro e w5 ⟨rfl, hb5'⟩; have hb5 : Below w4.heap.size w4 w5 := ((Below.refl _ _).drew).trans hb5'; clear hb5'; obtain ⟨x0, x1, x2, x3, x4, y1, y2, y3, y4, y5, y6, y7⟩ := HC.out _ hb5))
      all_goals
        go_wp2
        go_roundw
        case rel => exact ⟨k + 1, p.o.s, by omega, rfl, by go_num, HA.out, b4.trans (hb5.mono b4.size)⟩
        case measure => simp [intOf]; omega
    · have hki : ¬ (k : Int) < (M.length : Int) := by omega
      have hNx := hN wr hbr aN
      rw [hat.2 (by omega)] at hNx
      have hO := fun W (hW : Below w.heap.size w W) => (hp.below hW).objNo (h.last + 1) (by omega) rx.getL
      unfold zO at hO
      have hL : ∀ W, Below w.heap.size w W → Calls Tryd.prog 13 #[.pointer (some ⟨hb, 0, none⟩)] W fun e w' => e = .returned (.int .i64 (M.length : Int)) ∧ W = w' := fun W hW => by
        rw [rx.count]
        exact (hp.below hW).len
      have hLa := fun W (hW : Below w.heap.size w W) => (hp.below hW).last
      have hNo := fun W (hW : Below w.heap.size w W) => (hp.below hW).node
      have hUs := fun W (hW : Below w.heap.size w W) => (hp.below hW).used
      have hRu := fun W (hW : Below w.heap.size w W) => rused_any ra rc rt h.bs rx.ok.ao W (rx.below hW).ar
      rw [hlv] at c4
      have hcs : ∀ W, Below w.heap.size w W → W.cell? ⟨rb, 0, none⟩ = some (.int .i64 (h.node : Int)) ∧ W.cell? ⟨rb, 2, none⟩ = some (.int .u64 (h.last : Int)) ∧ W.cell? ⟨rb, 3, none⟩ = some (.pointer (some ⟨ra, 0, none⟩)) ∧ W.cell? ⟨rb, 4, none⟩ = some (.slice ao M.length cap) := fun W hW => by
        have rW := rx.below hW
        have e4 := rW.c4
        rw [hlv] at e4
        exact ⟨rW.box.cell 0 (by simp), rW.c2, rW.c3, e4⟩
      have hN1 : (h.last : Int) + 1 = ((h.last + 1 : Nat) : Int) := by omega
      have hlb : ((h.last + 1 : Nat) : Int) ≤ 72057594037927936 := by omega
      generalize h.last + 1 = L1 at *
      have hq1 : ((M.length : Int) == (M.length : Int)) = true := beq_self_eq_true _
      have hq2 : ((h.last : Int) == (h.last : Int)) = true := beq_self_eq_true _
      have hq3 : ((h.node : Int) == (h.node : Int)) = true := beq_self_eq_true _
      have hq4 : (((usedB h.bs : Nat) : Int) == ((usedB h.bs : Nat) : Int)) = true := beq_self_eq_true _
      generalize usedB h.bs = U at *
      clear hN hat rx rxr hlv hp
      go_wp2_with fail
      refine hNx.mono ?_
      rintro e w2 ⟨rfl, hb2⟩
      have b2 : Below w.heap.size w w2 := hbr.trans (hb2.mono hzr)
      clear hNx hb2
      obtain ⟨_, e2, _, _⟩ := hcs _ b2
      go_wp2_with fail
      refine (hO _ b2).mono ?_
      rintro e w3 ⟨rfl, hb3⟩
      have b3 : Below w.heap.size w w3 := b2.trans (hb3.mono b2.size)
      clear hO hb3 e2 c4 hbr hzr b2
      have hA : ∀ o, Below w3.heap.size w3 (w3.alloc o) := fun o => (Below.refl _ _).alloc (Nat.le_refl _) o
      go_wp2_with fail
      have b4 := b3.trans ((hA (.cells #[.int .u64 0, .int .i64 0, .slice none 0 0, .slice none 0 0, .int .i64 0] 50)).mono b3.size)
      have b5 : Below w.heap.size w (w3.alloc (.cells #[.int .u64 0, .int .i64 0, .slice none 0 0, .slice none 0 0, .int .i64 0] 50)).drew := b4.drew
      obtain ⟨t0, t2, t3, t4⟩ := hcs _ b4
      go_region_held (fun W => W.cell? ⟨rb, 0, none⟩ = some (.int .i64 (h.node : Int)) ∧ W.cell? ⟨rb, 2, none⟩ = some (.int .u64 (h.last : Int)) ∧ W.cell? ⟨rb, 3, none⟩ = some (.pointer (some ⟨ra, 0, none⟩)) ∧ W.cell? ⟨rb, 4, none⟩ = some (.slice ao M.length cap)) (go_keep) (first
        | (go_at_call 13; refine (hL _ b5).mono ?_; rintro e _ ⟨rfl, rfl⟩)
        | (go_at_call 14; refine (hLa _ b5).mono ?_; rintro e _ ⟨rfl, rfl⟩)
        | (go_at_call 15; refine (hNo _ b5).mono ?_; rintro e _ ⟨rfl, rfl⟩)
        | (go_at_call 16; refine (hUs _ b5).mono ?_; rintro e w6 ⟨rfl, hb6⟩; have b6 : Below w.heap.size w w6 := b5.trans (hb6.mono b5.size); clear hb6; obtain ⟨s0, s2, s3, s4⟩ := hcs _ b6)
        | (go_at_call 42; refine (hRu _ b6).mono ?_; rintro e _ ⟨rfl, rfl⟩)
        | (go_at_call 42; refine (hRu _ b5).mono ?_; rintro e _ ⟨rfl, rfl⟩))
      all_goals
        go_wp2
        go_ret
        exact ⟨rfl, b6⟩
end

end Go.Proofs.YthjbbghmmikmmaaDoor
