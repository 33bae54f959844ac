/- The methods of table.Table[uint64, int]. -/
import Derived.Test.YtofpkmionbbmcaaTbO
import Derived.Test.YtofpkmionbbmcaaTbSU
import Derived.Test.YtofpkmionbbmcaaTbIU
import Derived.Test.YtofpkmionbbmcaaTbII
import Derived.Deep.Cut
import Derived.Deep.QuietTactic
import Derived.BigQuiet
namespace Go.Proofs.Ytofpkmionbbmcaa
open Go.RowKit

def vfUI (v : Int) : List Value := [.int .i64 v]
@[reducible] def TBUI (w : World) (b most : Nat) (es : List (Nat × Int)) (F : Nat → Prop) : Prop := TB ltN kfU vfUI 1 80 42 3 w b most es F

theorem k1UI (es : List (Nat × Int)) : ∀ u ∈ es.map (fun e => kfU e.1), u.oneCell' = true := TB.one (fun _ => rfl)
theorem v1UI (es : List (Nat × Int)) : ∀ u ∈ es.flatMap (fun e => vfUI e.2), u.oneCell' = true := TB.oneV (fun x u hu => by rw [List.mem_singleton.1 hu]; rfl)
/-- Where the keys lie. -/
theorem rowKUI {w : World} {n : Nat} {ao : Option Addr} {cap : Nat} {es : List (Nat × Int)} (h : w.ownsRow 0 42 1 (.slice ao n cap) n (es.map (fun e => kfU e.1))) : keysE es ≠ [] → ∃ g, ao = some ⟨g, 0, none⟩ ∧ ∀ j (hj : j < (keysE es).length), w.cell? ⟨g, j, none⟩ = some (kfU (keysE es)[j]) := by
  intro hne
  rcases h.2 with ⟨h0, h1⟩ | ⟨g, cap', cur, hv, _, hg, h4, h5, h6, h7⟩
  · have := h.1
    cases es with
    | nil => exact absurd rfl hne
    | cons a l => simp at this; omega
  · cases hv
    refine ⟨g, rfl, fun j hj => ?_⟩
    have hj' : j < es.length := by rw [← keysE_len es]; exact hj
    have q : (es.map (fun e => kfU e.1))[j]? = some (kfU (keysE es)[j]) := by simp [keysE, hj']
    rw [← h7, List.getElem?_take] at q
    rw [cell_of_row w g j _ _ _ hg]
    split at q
    · simpa using q
    · cases q
/-- A value in its place. -/
theorem rowVUI {w : World} {n : Nat} {ao : Option Addr} {cap : Nat} {es : List (Nat × Int)} (h : w.ownsRow 0 3 1 (.slice ao n cap) n (es.flatMap (fun e => vfUI e.2))) (p : Nat) (hp : p < es.length) : ∃ g, ao = some ⟨g, 0, none⟩ ∧ g < w.heap.size ∧ w.cell? ⟨g, p, none⟩ = some (.int .i64 es[p].2) ∧ w.frozen? ⟨g, p, none⟩ = false := by
  have hl := h.1
  rw [flat_len _ 1 (fun _ => rfl)] at hl
  rcases h.2 with ⟨h0, h1⟩ | ⟨g, cap', cur, hv, _, hg, h4, h5, h6, h7⟩
  · omega
  · cases hv
    refine ⟨g, rfl, (Array.getElem?_eq_some_iff.1 hg).1, ?_, frozen_of_row w g p _ _ hg⟩
    have q := flat_at (fun e : Nat × Int => vfUI e.2) 1 (fun _ => rfl) es p hp 0 (by omega)
    rw [← h7, List.getElem?_take] at q
    rw [cell_of_row w g p _ _ _ hg]
    split at q
    · simpa [vfUI] using q
    · simp [vfUI] at q

set_option maxRecDepth 20000 in
theorem newUI_ok (n : Nat) (h1 : 1 ≤ n) (h2 : n ≤ 4096) (w : World) :
    Calls Try.prog 19 #[.int .i64 (n : Int)] w fun e w' => e = .returned (.tuple #[.pointer (some ⟨w.heap.size, 0, none⟩), .int .i64 0]) ∧ TBUI w' w.heap.size n [] (fun k => k = w.heap.size) ∧ Below w.heap.size w w' ∧ w'.heap.size = w.heap.size + 1 := by
  go_enter Try.func19, Try.ntmps19
  go_wp2
  go_ret2
  refine ⟨rfl, ⟨⟨.slice none 0 0, .slice none 0 0, heap_alloc_new w _, ⟨rfl, Or.inl ⟨rfl, rfl⟩⟩, ⟨rfl, Or.inl ⟨rfl, rfl⟩⟩, rfl, fun k h => by simp [Value.ownBlock] at h, fun k h => by simp [Value.ownBlock] at h, fun k h => ?_⟩, List.Pairwise.nil, Nat.zero_le _, h2⟩, (Below.refl _ _).alloc (Nat.le_refl _) _, by simp⟩
  have h' : k = w.heap.size := h
  simp [h']
set_option maxRecDepth 20000 in
theorem newUI_no (n : Int) (h : n < 1 ∨ 4096 < n) (w : World) :
    Calls Try.prog 19 #[.int .i64 n] w fun e w' => e = .returned (.tuple #[.pointer none, .int .i64 1]) ∧ w = w' := by
  by_cases h1 : n < 1
  · go_enter Try.func19, Try.ntmps19
    go_wp2
    go_ret2
    exact ⟨rfl, rfl⟩
  · have h2 : 4096 < n := by omega
    go_enter Try.func19, Try.ntmps19
    go_wp2
    go_ret2
    exact ⟨rfl, rfl⟩

set_option maxRecDepth 20000 in
theorem findUI_any (b most : Nat) (es : List (Nat × Int)) (F : Nat → Prop) (k : Nat) (w : World) (h : TBUI w b most es F) :
    Calls Try.prog 46 #[.pointer (some ⟨b, 0, none⟩), .int .u64 (k : Int)] w fun e w' => e = .returned (.tuple #[.int .i64 (pE ltN es k : Int), .bool (hasE ltN es k)]) ∧ ∃ q, w' = w.drewN q := by
  obtain ⟨kr, vr, hx⟩ := h.tx
  have c1 := hx.c1
  have hr : es.length ≤ 1000000 := by have := h.le; have := h.small; omega
  obtain ⟨ao, cap, rfl, _, _, _⟩ := own_slice hx.ko
  have HB : Hid _ := hidden (bsU_any ao cap es.length (keysE es) k w (keysE_len es).symm h.srt hr (rowKUI hx.ko))
  clear hx h hr
  go_enter Try.func46, Try.ntmps46
  go_wp2_with (go_at_call 58; refine HB.out.mono ?_; rintro e w1 ⟨rfl, q, rfl⟩)
  go_ret2
  exact ⟨rfl, q, rfl⟩

set_option maxRecDepth 20000 in
theorem atUI_some (b most : Nat) (es : List (Nat × Int)) (F : Nat → Prop) (i : Nat) (w : World) (h : TBUI w b most es F) (hi : i < (keysE es).length) :
    Calls Try.prog 49 #[.pointer (some ⟨b, 0, none⟩), .int .i64 (i : Int)] w fun e w' => e = .returned (.tuple #[kfU (keysE es)[i], .bool true]) ∧ w = w' := by
  obtain ⟨kr, vr, hx⟩ := h.tx
  have c1 := hx.c1
  have hl := keysE_len es
  obtain ⟨ao, cap, rfl, hnc, _, _⟩ := own_slice hx.ko
  obtain ⟨g, rfl, hc⟩ := rowKUI hx.ko (by intro e; rw [e] at hi; simp at hi)
  have hc1 := hc i hi
  have hie : (i : Int) < (es.length : Int) := by omega
  unfold kfU at hc1 ⊢
  generalize (keysE es)[i] = x at *
  clear hc hx h hi hl
  go_enter Try.func49, Try.ntmps49
  go_wp2
  go_ret2
  exact ⟨rfl, rfl⟩
set_option maxRecDepth 20000 in
theorem atUI_none (b most : Nat) (es : List (Nat × Int)) (F : Nat → Prop) (i : Nat) (w : World) (h : TBUI w b most es F) (hi : es.length ≤ i) :
    Calls Try.prog 49 #[.pointer (some ⟨b, 0, none⟩), .int .i64 (i : Int)] w fun e w' => e = .returned (.tuple #[.int .u64 0, .bool false]) ∧ w = w' := by
  obtain ⟨kr, vr, hx⟩ := h.tx
  have c1 := hx.c1
  obtain ⟨ao, cap, rfl, hnc, _, _⟩ := own_slice hx.ko
  have hie : ¬ (i : Int) < (es.length : Int) := by omega
  clear hx h
  go_enter Try.func49, Try.ntmps49
  go_wp2
  go_ret2
  exact ⟨rfl, rfl⟩
/-- A key, or none. -/
def okVUI (o : Option Nat) : Value := match o with | some k => .tuple #[.int .u64 (k : Int), .bool true] | none => .tuple #[.int .u64 0, .bool false]
theorem atUI_any (b most : Nat) (es : List (Nat × Int)) (F : Nat → Prop) (i : Nat) (w : World) (h : TBUI w b most es F) :
    Calls Try.prog 49 #[.pointer (some ⟨b, 0, none⟩), .int .i64 (i : Int)] w fun e w' => e = .returned (okVUI (keysE es)[i]?) ∧ w = w' := by
  by_cases hi : i < (keysE es).length
  · rw [List.getElem?_eq_getElem hi]
    exact atUI_some b most es F i w h hi
  · rw [List.getElem?_eq_none (by omega)]
    exact atUI_none b most es F i w h (by rw [← keysE_len es]; omega)

set_option maxRecDepth 20000 in
theorem lenUI_any (b most : Nat) (es : List (Nat × Int)) (F : Nat → Prop) (w : World) (h : TBUI w b most es F) :
    Calls Try.prog 33 #[.pointer (some ⟨b, 0, none⟩)] w fun e w' => e = .returned (.int .i64 (es.length : Int)) ∧ w = w' := by
  obtain ⟨kr, vr, hx⟩ := h.tx
  have c1 := hx.c1
  obtain ⟨ao, cap, rfl, hnc, _, _⟩ := own_slice hx.ko
  clear hx h
  go_enter Try.func33, Try.ntmps33
  go_wp2
  go_ret
  exact ⟨rfl, rfl⟩

set_option maxRecDepth 20000 in
theorem firstUI_any (b most : Nat) (es : List (Nat × Int)) (F : Nat → Prop) (w : World) (h : TBUI w b most es F) :
    Calls Try.prog 29 #[.pointer (some ⟨b, 0, none⟩)] w fun e w' => e = .returned (okVUI (firstE es)) ∧ w = w' := by
  have HA : Hid _ := hidden (atUI_any b most es F 0 w h)
  unfold firstE
  cases hq : (keysE es)[0]? <;> rw [hq] at HA <;> unfold okVUI at HA ⊢ <;> simp only [Int.ofNat_zero] at HA ⊢ <;>
  · go_enter Try.func29, Try.ntmps29
    go_wp2_with (go_at_call 49; refine HA.out.mono ?_; rintro e w1 ⟨rfl, rfl⟩)
    go_ret2
    exact ⟨rfl, rfl⟩

set_option maxRecDepth 20000 in
theorem nextUI_any (b most : Nat) (es : List (Nat × Int)) (F : Nat → Prop) (k : Nat) (w : World) (h : TBUI w b most es F) :
    Calls Try.prog 25 #[.pointer (some ⟨b, 0, none⟩), .int .u64 (k : Int)] w fun e w' => e = .returned (okVUI (nextE ltN es k)) ∧ ∃ q, w' = w.drewN q := by
  have HF : Hid _ := hidden (findUI_any b most es F k w h)
  have hp := pE_le (lt := ltN) es k
  have hr : es.length ≤ 4096 := by have := h.le; have := h.small; omega
  unfold nextE
  cases hb : hasE ltN es k
  · rw [hb] at HF
    rw [if_neg (by simp), Nat.add_zero]
    generalize hP : pE ltN es k = P at *
    have HA : ∀ q, Hid (Calls Try.prog 49 #[.pointer (some ⟨b, 0, none⟩), .int .i64 (P : Int)] (w.drewN q) fun e w' => e = .returned (okVUI (keysE es)[P]?) ∧ w.drewN q = w') := fun q => hidden (atUI_any b most es F P _ (h.below (below_drewN w q)))
    cases hq : (keysE es)[P]? <;> simp only [hq] at HA <;> unfold okVUI at HA ⊢ <;> simp only at HA ⊢ <;> clear h hq hb hP <;>
    · go_enter Try.func25, Try.ntmps25
      go_wp2_with (first
        | (go_at_call 46; refine HF.out.mono ?_; rintro e w1 ⟨rfl, q, rfl⟩)
        | (go_at_call 49; refine (HA q).out.mono ?_; rintro e w1 ⟨rfl, rfl⟩))
      go_ret2
      exact ⟨rfl, q, rfl⟩
  · rw [hb] at HF
    rw [if_pos rfl]
    generalize hP : pE ltN es k = P at *
    have HA : ∀ q, Hid (Calls Try.prog 49 #[.pointer (some ⟨b, 0, none⟩), .int .i64 ((P : Int) + 1)] (w.drewN q) fun e w' => e = .returned (okVUI (keysE es)[P + 1]?) ∧ w.drewN q = w') := fun q => by
      have h1 := atUI_any b most es F (P + 1) _ (h.below (below_drewN w q))
      rw [show ((P + 1 : Nat) : Int) = (P : Int) + 1 by omega] at h1
      exact hidden h1
    cases hq : (keysE es)[P + 1]? <;> simp only [hq] at HA <;> unfold okVUI at HA ⊢ <;> simp only at HA ⊢ <;> clear h hq hb hP <;>
    · go_enter Try.func25, Try.ntmps25
      go_wp2_with (first
        | (go_at_call 46; refine HF.out.mono ?_; rintro e w1 ⟨rfl, q, rfl⟩)
        | (go_at_call 49; refine (HA q).out.mono ?_; rintro e w1 ⟨rfl, rfl⟩))
      go_ret2
      exact ⟨rfl, q, rfl⟩

set_option maxRecDepth 20000 in
theorem afterUI_any (b most : Nat) (es : List (Nat × Int)) (F : Nat → Prop) (k : Nat) (w : World) (h : TBUI w b most es F) :
    Calls Try.prog 27 #[.pointer (some ⟨b, 0, none⟩), .int .u64 (k : Int)] w fun e w' => e = .returned (okVUI (afterE ltN es k)) ∧ ∃ q, w' = w.drewN q := by
  have HN : Hid _ := hidden (nextUI_any b most es F k w h)
  have HA : ∀ q, Hid (Calls Try.prog 29 #[.pointer (some ⟨b, 0, none⟩)] (w.drewN q) fun e w' => e = .returned (okVUI (firstE es)) ∧ w.drewN q = w') := fun q => hidden (firstUI_any b most es F _ (h.below (below_drewN w q)))
  clear h
  unfold afterE
  cases hq : nextE ltN es k with
  | some x =>
    rw [hq] at HN
    unfold okVUI at HN ⊢
    simp only at HN ⊢
    clear HA
    go_enter Try.func27, Try.ntmps27
    go_wp2_with (go_at_call 25; refine HN.out.mono ?_; rintro e w1 ⟨rfl, q, rfl⟩)
    go_ret2
    exact ⟨rfl, q, rfl⟩
  | none =>
    rw [hq] at HN
    unfold okVUI at HN HA ⊢
    simp only at HN HA ⊢
    cases hf : firstE es <;> simp only [hf] at HA <;> simp only <;>
    · go_enter Try.func27, Try.ntmps27
      go_wp2_with (first
        | (go_at_call 25; refine HN.out.mono ?_; rintro e w1 ⟨rfl, q, rfl⟩)
        | (go_at_call 29; refine (HA q).out.mono ?_; rintro e w1 ⟨rfl, rfl⟩))
      go_ret2
      exact ⟨rfl, q, rfl⟩

/-- A value, or none. -/
def ovVUI (o : Option Int) : Value := match o with | some v => .tuple #[.int .i64 v, .bool true] | none => .tuple #[.int .i64 0, .bool false]
set_option maxRecDepth 20000 in
theorem getUI_any (b most : Nat) (es : List (Nat × Int)) (F : Nat → Prop) (k : Nat) (w : World) (h : TBUI w b most es F) :
    Calls Try.prog 21 #[.pointer (some ⟨b, 0, none⟩), .int .u64 (k : Int)] w fun e w' => e = .returned (ovVUI (getE ltN es k)) ∧ ∃ q, w' = w.drewN q := by
  have HF : Hid _ := hidden (findUI_any b most es F k w h)
  unfold getE
  cases hb : hasE ltN es k
  · rw [hb] at HF
    rw [if_neg (by simp)]
    unfold ovVUI
    simp only
    clear h
    go_enter Try.func21, Try.ntmps21
    go_wp2_with (go_at_call 46; refine HF.out.mono ?_; rintro e w1 ⟨rfl, q, rfl⟩)
    go_ret2
    exact ⟨rfl, q, rfl⟩
  · rw [hb] at HF
    rw [if_pos rfl]
    obtain ⟨hp, _⟩ := hasE_at hb
    rw [List.getElem?_eq_getElem hp]
    unfold ovVUI
    simp only [Option.map_some]
    obtain ⟨kr, vr, hx⟩ := h.tx
    have c2 := hx.c2
    obtain ⟨ao, cap, rfl, hnc, hcm, _⟩ := own_slice hx.vo
    obtain ⟨g, rfl, hgw, hc, hf⟩ := rowVUI hx.vo (pE ltN es k) hp
    have hpi : (pE ltN es k : Int) < (es.length : Int) := by omega
    generalize es[pE ltN es k] = en at *
    generalize pE ltN es k = P at *
    clear hx h hf
    unfold maxLen at hcm
    go_enter Try.func21, Try.ntmps21
    go_wp2_with (go_at_call 46; refine HF.out.mono ?_; rintro e w1 ⟨rfl, q, rfl⟩; have c2' : (w.drewN q).cell? ⟨b, 2, none⟩ = _ := c2; have hc' : (w.drewN q).cell? ⟨g, P, none⟩ = _ := hc)
    go_ret2
    exact ⟨rfl, q, rfl⟩

theorem setEUI (es : List (Nat × Int)) (k : Nat) (v : Int) (h : hasE ltN es k = true) : (es.set (pE ltN es k) (k, v)).map (fun e => kfU e.1) = es.map (fun e => kfU e.1) := by
  have e1 : ∀ l : List (Nat × Int), l.map (fun e => kfU e.1) = (keysE l).map kfU := fun l => by simp [keysE, Function.comp_def]
  rw [e1, e1, keys_set v h]
theorem insEkUI (es : List (Nat × Int)) (p : Nat) (k : Nat) (v : Int) : (insE es p k v).map (fun e => kfU e.1) = (es.map (fun e => kfU e.1)).take (p * 1) ++ ([.int .u64 (k : Int)] ++ (es.map (fun e => kfU e.1)).drop (p * 1)) := by
  simp [insE, List.map_take, List.map_drop, kfU]
theorem insEvUI (es : List (Nat × Int)) (p : Nat) (k : Nat) (v : Int) : (insE es p k v).flatMap (fun e => vfUI e.2) = (es.flatMap (fun e => vfUI e.2)).take (p * 1) ++ ([.int .i64 v] ++ (es.flatMap (fun e => vfUI e.2)).drop (p * 1)) := by
  rw [take_flat _ 1 (fun _ => rfl), drop_flat _ 1 (fun _ => rfl)]
  simp [insE, vfUI]
set_option maxRecDepth 20000 in
set_option maxHeartbeats 1000000 in
theorem putUI_has (b most : Nat) (es : List (Nat × Int)) (F : Nat → Prop) (k : Nat) (v : Int) (w : World) (h : TBUI w b most es F) (hb : hasE ltN es k = true) :
    Calls Try.prog 31 #[.pointer (some ⟨b, 0, none⟩), .int .u64 (k : Int), .int .i64 v] w fun e w' => e = .returned (.bool true) ∧ TBUI w' b most (es.set (pE ltN es k) (k, v)) F ∧ Kept w w' F := by
  have HF : Hid _ := hidden (findUI_any b most es F k w h)
  rw [hb] at HF
  obtain ⟨hp, _⟩ := hasE_at hb
  obtain ⟨kr, vr, hx⟩ := h.tx
  obtain ⟨ao, cap, rfl, hnc, hcm, _⟩ := own_slice hx.vo
  obtain ⟨g, rfl, hgw, hc, hf⟩ := rowVUI hx.vo (pE ltN es k) hp
  have c2 := hx.c2
  have HE : Hid (TX 80 42 3 1 w b most kr (.slice (some ⟨g, 0, none⟩) es.length cap) es.length es.length ((es.set (pE ltN es k) (k, v)).map (fun e => kfU e.1)) (es.flatMap (fun e => vfUI e.2)) F) := by
    rw [setEUI es k v hb]; exact hx
  have HV : Hid ((es.set (pE ltN es k) (k, v)).flatMap (fun e => vfUI e.2) = splice (es.flatMap (fun e => vfUI e.2)) (pE ltN es k * 1) [.int .i64 v]) := set_flat (fun e : Nat × Int => vfUI e.2) 1 (fun _ => rfl) es _ hp (k, v)
  have HS : Hid (Srt ltN (keysE (es.set (pE ltN es k) (k, v)))) := by
    have := h.srt
    rw [← keys_set v hb] at this
    exact this
  have hle := h.le
  have hsm := h.small
  have hpi : (pE ltN es k : Int) < (es.length : Int) := by omega
  have hl1 : (es.set (pE ltN es k) (k, v)).length = es.length := by simp
  have HL : Hid _ := hidden hl1
  have HP : Hid _ := hidden hp
  generalize es.set (pE ltN es k) (k, v) = es' at *
  generalize es[pE ltN es k] = en at *
  generalize pE ltN es k = P at *
  clear hx h hl1 hgw hp
  unfold maxLen at hcm
  go_enter Try.func31, Try.ntmps31
  go_wp2_with (go_at_call 46; refine HF.out.mono ?_; rintro e w1 ⟨rfl, q, rfl⟩; have c2' : (w.drewN q).cell? ⟨b, 2, none⟩ = _ := c2; have hc' : (w.drewN q).cell? ⟨g, P, none⟩ = _ := hc; have hf' : (w.drewN q).frozen? ⟨g, P, none⟩ = _ := hf)
  go_ret
  have hx1 := HE.out.below (below_drewN w q)
  have hl := HL.out
  have hp := HP.out
  obtain ⟨ho2, hk2⟩ := own_setCells (o := P * 1) (cs := [.int .i64 v]) hx1.vo (by simp; omega)
  rw [← HV.out] at ho2
  have hes : (w.drewN q).setCells g (P * 1) [.int .i64 v] = (w.drewN q).setCell ⟨g, P, none⟩ (.int .i64 v) := by rw [Nat.mul_one]; rfl
  rw [hes] at ho2 hk2
  obtain ⟨hx2, hk3⟩ := hx1.turnV ho2 hk2
  exact ⟨rfl, ⟨⟨_, _, by rw [hl]; exact hx2⟩, HS.out, by omega, hsm⟩, (kept_of_below (below_drewN w q) F).trans hk3 (fun _ _ e => e)⟩

set_option maxRecDepth 20000 in
set_option maxHeartbeats 1000000 in
theorem putUI_full (b most : Nat) (es : List (Nat × Int)) (F : Nat → Prop) (k : Nat) (v : Int) (w : World) (h : TBUI w b most es F) (hb : hasE ltN es k = false) (hl : most ≤ es.length) :
    Calls Try.prog 31 #[.pointer (some ⟨b, 0, none⟩), .int .u64 (k : Int), .int .i64 v] w fun e w' => e = .returned (.bool false) ∧ ∃ q, w' = w.drewN q := by
  have HF : Hid _ := hidden (findUI_any b most es F k w h)
  rw [hb] at HF
  obtain ⟨kr, vr, hx⟩ := h.tx
  obtain ⟨ao, cap, rfl, hnc, hcm, _⟩ := own_slice hx.ko
  have c1 := hx.c1
  have c0 := hx.c0
  have hli : (most : Int) ≤ (es.length : Int) := by omega
  clear hx h
  generalize pE ltN es k = P at *
  go_enter Try.func31, Try.ntmps31
  go_wp2_with (go_at_call 46; refine HF.out.mono ?_; rintro e w1 ⟨rfl, q, rfl⟩)
  go_quiet (fail)
  go_wp2
  go_ret
  exact ⟨rfl, q + nq, by first | rfl | simp⟩

set_option maxRecDepth 20000 in
set_option maxHeartbeats 2000000 in
theorem putUI_new (b most : Nat) (es : List (Nat × Int)) (F : Nat → Prop) (k : Nat) (v : Int) (w : World) (h : TBUI w b most es F) (hb : hasE ltN es k = false) (hl : es.length < most) :
    Calls Try.prog 31 #[.pointer (some ⟨b, 0, none⟩), .int .u64 (k : Int), .int .i64 v] w fun e w' => ∃ F', e = .returned (.bool true) ∧ TBUI w' b most (insE es (pE ltN es k) k v) F' ∧ Kept w w' F ∧ GrownT w F F' := by
  have HF : Hid _ := hidden (findUI_any b most es F k w h)
  rw [hb] at HF
  have hp := pE_le (lt := ltN) es k
  have HK : Hid _ := hidden (insEkUI es (pE ltN es k) k v)
  have HV : Hid _ := hidden (insEvUI es (pE ltN es k) k v)
  have HS : Hid (Srt ltN (keysE (insE es (pE ltN es k) k v))) := by
    rw [keys_ins]
    exact srt_ins koN k _ h.srt hb
  have hl1 : (insE es (pE ltN es k) k v).length = es.length + 1 := by simp [insE]; omega
  have HL : Hid _ := hidden hl1
  obtain ⟨kr, vr, hx⟩ := h.tx
  have HX : Hid _ := hidden hx
  have HW : Hid (∀ i, F i → i < w.heap.size) := hx.lt
  have hsm := h.small
  generalize insE es (pE ltN es k) k v = es' at *
  generalize pE ltN es k = P at *
  obtain ⟨ao, cap, rfl, hnc, hcm, _⟩ := own_slice hx.ko
  obtain ⟨vo, vcap, rfl, hvc, hvm, _⟩ := own_slice hx.vo
  have h1k := hidden (k1UI es)
  have h1v := hidden (v1UI es)
  have c1 := hx.c1
  have c0 := hx.c0
  have hli : ¬ (most : Int) ≤ (es.length : Int) := by omega
  clear hx h hl1
  generalize es.map (fun e => kfU e.1) = ks at *
  generalize es.flatMap (fun e => vfUI e.2) = vs at *
  generalize es.length = n at *
  unfold maxLen at hcm hvm
  go_enter Try.func31, Try.ntmps31
  go_wp2_with (go_at_call 46; refine HF.out.mono ?_; rintro e w1 ⟨rfl, q, rfl⟩; clear HF)
  go_quiet (fail)
  have hbd : Below w.heap.size w ((w.drewN q).drewN nq) := (below_drewN w q).trans (below_drewN (w.drewN q) nq)
  have hXd := HX.out.below hbd
  have hHS : Hid (((w.drewN q).drewN nq).heap.size = w.heap.size) := (rfl : _ = _)
  generalize (w.drewN q).drewN nq = wd at *
  have c1d := hXd.c1
  have hA : Below wd.heap.size wd (wd.alloc (.cells #[.int .u64 (k : Int)] 42)) := (Below.refl _ _).alloc (Nat.le_refl _) _
  have hXa := hXd.below hA
  have hxb := heap_alloc_new wd (.cells #[.int .u64 (k : Int)] 42)
  have hneK : (Value.slice ao n cap).ownBlock ≠ some wd.heap.size := fun e => by
    have := (hXd.ko.lt _ e).2
    omega
  have HI : Hid _ := hidden (insU_any (.slice ao n cap) n P wd.heap.size ks [.int .u64 (k : Int)] _ hXa.ko hp (by omega) hxb rfl hneK h1k.out (by simp [Value.oneCell']))
  have HB : Hid (Below wd.heap.size wd (wd.alloc (.cells #[.int .u64 (k : Int)] 42))) := hA
  have HXa : Hid _ := hidden hXa
  have hdw : Hid (Below w.heap.size w wd) := hbd
  clear hXa hA hbd c1 c0 HX hxb hneK
  go_wp2_with fail
  refine HI.out.mono ?_
  rintro e w2 ⟨kr', rfl, ho2, hk2, hm2⟩
  obtain ⟨ao2, cap2, hkr2, hnc2, hcm2, _⟩ := own_slice ho2
  subst hkr2
  have hbx2 := (hk2.block b (by have := hXd.lt b hXd.fb; simp; omega) (fun e => (hXd.fk b e).2.1 rfl)).trans HXa.out.box
  have e1 := cell_of_row w2 b 1 _ _ _ hbx2
  have f1 := frozen_of_row w2 b 1 _ _ hbx2
  simp at e1
  obtain ⟨hX3, hk3⟩ := HXa.out.setK ho2 hk2 hm2
  have e2 := hX3.c2
  have HX3 : Hid _ := hidden hX3
  have HK3 : Hid _ := hidden hk3
  clear hbx2 ho2 hk2 hm2 hX3 hk3 HI c1d
  go_wp2_with fail
  have hsz3 : (w2.setCell ⟨b, 1, none⟩ (.slice ao2 (n + 1) cap2)).heap.size = w2.heap.size := by simp
  rw [← hsz3]
  clear hsz3 e1 f1 e2
  generalize w2.setCell ⟨b, 1, none⟩ (.slice ao2 (n + 1) cap2) = w3 at *
  have hX3 := HX3.out
  have hA3 : Below w3.heap.size w3 (w3.alloc (.cells #[.int .i64 v] 3)) := (Below.refl _ _).alloc (Nat.le_refl _) _
  have hX4 := hX3.below hA3
  have hneV : (Value.slice vo n vcap).ownBlock ≠ some w3.heap.size := fun e => by
    have := (hX3.vo.lt _ e).2
    omega
  refine (insI_any (.slice vo n vcap) n P w3.heap.size vs [.int .i64 v] _ hX4.vo hp (by omega) (heap_alloc_new w3 _) rfl hneV h1v.out (by simp [Value.oneCell'])).mono ?_
  rintro e w5 ⟨vr', rfl, ho5, hk5, hm5⟩
  obtain ⟨ao5, cap5, hvr5, hnc5, hcm5, _⟩ := own_slice ho5
  subst hvr5
  have hbx5 := (hk5.block b (by have := hX3.lt b hX3.fb; simp; omega) (fun e => (hX3.fv b e).2 rfl)).trans hX4.box
  have e2 := cell_of_row w5 b 2 _ _ _ hbx5
  have f2 := frozen_of_row w5 b 2 _ _ hbx5
  simp at e2
  obtain ⟨hX6, hk6⟩ := hX4.setV ho5 hk5 hm5
  have HX6 : Hid _ := hidden hX6
  have HK6 : Hid _ := hidden hk6
  have HA3 : Hid _ := hidden hA3
  clear hX6 hk6 hX4 hX3 hbx5 ho5 hk5 hm5 hA3 hneV
  go_wp2
  go_ret
  have q1 := hdw.out
  have q2 := HB.out
  have q4 := HA3.out
  have s1 := q1.size
  have s2 := q2.size
  have s3 := HK3.out.size
  have s4 := q4.size
  refine ⟨_, rfl, ⟨⟨_, _, by rw [HK.out, HV.out, HL.out]; exact HX6.out⟩, HS.out, by have := HL.out; omega, hsm⟩, ?_, ?_⟩
  · have a1 := ((kept_of_below q1 F).trans (kept_of_below q2 F) (fun _ _ e => e)).trans HK3.out (fun _ _ e => e)
    have a2 := a1.trans (kept_of_below q4 F) (fun _ _ e => e)
    refine a2.trans HK6.out (fun i hi e => ?_)
    rcases e with e | e
    · exact e
    · omega
  · intro i hi
    rcases hi with hi | hi
    · rcases hi with hi | hi
      · exact Or.inl hi
      · exact Or.inr (by omega)
    · exact Or.inr (by omega)
theorem putUI_any (b most : Nat) (es : List (Nat × Int)) (F : Nat → Prop) (k : Nat) (v : Int) (w : World) (h : TBUI w b most es F) :
    Calls Try.prog 31 #[.pointer (some ⟨b, 0, none⟩), .int .u64 (k : Int), .int .i64 v] w fun e w' => ∃ F', e = .returned (.bool (putB ltN most es k)) ∧ TBUI w' b most (putE ltN most es k v) F' ∧ Kept w w' F ∧ GrownT w F F' := by
  unfold putB putE
  cases hb : hasE ltN es k
  · rw [if_neg (by simp), Bool.false_or]
    by_cases hl : es.length < most
    · rw [if_pos hl, decide_eq_true hl]
      exact putUI_new b most es F k v w h hb hl
    · rw [if_neg hl, decide_eq_false hl]
      refine (putUI_full b most es F k v w h hb (by omega)).mono ?_
      rintro e w' ⟨rfl, q, rfl⟩
      exact ⟨F, rfl, h.below (below_drewN w q), kept_of_below (below_drewN w q) F, GrownT.refl _ _⟩
  · rw [if_pos rfl, Bool.true_or]
    refine (putUI_has b most es F k v w h hb).mono ?_
    rintro e w' ⟨rfl, h', hk⟩
    exact ⟨F, rfl, h', hk, GrownT.refl _ _⟩

theorem ersEUI (es : List (Nat × Int)) (p : Nat) : (es.eraseIdx p).map (fun e => kfU e.1) = (es.map (fun e => kfU e.1)).take (p * 1) ++ (es.map (fun e => kfU e.1)).drop ((p + 1) * 1) := by
  rw [List.eraseIdx_eq_take_drop_succ]
  simp [List.map_take, List.map_drop]
theorem ersVUI (es : List (Nat × Int)) (p : Nat) : (es.eraseIdx p).flatMap (fun e => vfUI e.2) = (es.flatMap (fun e => vfUI e.2)).take (p * 1) ++ (es.flatMap (fun e => vfUI e.2)).drop ((p + 1) * 1) := by
  rw [take_flat _ 1 (fun _ => rfl), drop_flat _ 1 (fun _ => rfl), List.eraseIdx_eq_take_drop_succ, List.flatMap_append]
set_option maxRecDepth 20000 in
set_option maxHeartbeats 1000000 in
theorem dropUI_no (b most : Nat) (es : List (Nat × Int)) (F : Nat → Prop) (k : Nat) (w : World) (h : TBUI w b most es F) (hb : hasE ltN es k = false) :
    Calls Try.prog 23 #[.pointer (some ⟨b, 0, none⟩), .int .u64 (k : Int)] w fun e w' => e = .returned (.bool false) ∧ ∃ q, w' = w.drewN q := by
  have HF : Hid _ := hidden (findUI_any b most es F k w h)
  rw [hb] at HF
  clear h
  go_enter Try.func23, Try.ntmps23
  go_wp2_with (go_at_call 46; refine HF.out.mono ?_; rintro e w1 ⟨rfl, q, rfl⟩)
  go_ret
  exact ⟨rfl, q, rfl⟩
set_option maxRecDepth 20000 in
set_option maxHeartbeats 2000000 in
theorem dropUI_has (b most : Nat) (es : List (Nat × Int)) (F : Nat → Prop) (k : Nat) (w : World) (h : TBUI w b most es F) (hb : hasE ltN es k = true) :
    Calls Try.prog 23 #[.pointer (some ⟨b, 0, none⟩), .int .u64 (k : Int)] w fun e w' => ∃ F', e = .returned (.bool true) ∧ TBUI w' b most (es.eraseIdx (pE ltN es k)) F' ∧ Kept w w' F ∧ GrownT w F F' := by
  have HF : Hid _ := hidden (findUI_any b most es F k w h)
  rw [hb] at HF
  have hp : pE ltN es k < es.length := (hasE_at hb).1
  have HK : Hid _ := hidden (ersEUI es (pE ltN es k))
  have HV : Hid _ := hidden (ersVUI es (pE ltN es k))
  have HS : Hid (Srt ltN (keysE (es.eraseIdx (pE ltN es k)))) := by
    rw [keys_erase]
    exact h.srt.sublist (List.eraseIdx_sublist _ _)
  have hl1 : (es.eraseIdx (pE ltN es k)).length = es.length - 1 := by rw [List.length_eraseIdx, if_pos hp]
  have HL : Hid _ := hidden hl1
  obtain ⟨kr, vr, hx⟩ := h.tx
  have HX : Hid _ := hidden hx
  have hsm := h.small
  have hle := h.le
  obtain ⟨ao, cap, rfl, hnc, hcm, _⟩ := own_slice hx.ko
  obtain ⟨vo, vcap, rfl, hvc, hvm, _⟩ := own_slice hx.vo
  obtain ⟨gk, rfl, hc⟩ := rowKUI hx.ko (by intro e; have := keysE_len es; rw [e] at this; simp at this; omega)
  obtain ⟨gv, rfl, hgw, hcv, hf⟩ := rowVUI hx.vo (pE ltN es k) hp
  have h1k := hidden (k1UI es)
  have h1v := hidden (v1UI es)
  clear hx h hl1 hc hcv hf hgw
  generalize es.eraseIdx (pE ltN es k) = es' at *
  generalize pE ltN es k = P at *
  generalize es.map (fun e => kfU e.1) = ks at *
  generalize es.flatMap (fun e => vfUI e.2) = vs at *
  generalize es.length = n at *
  unfold maxLen at hcm hvm
  go_enter Try.func23, Try.ntmps23
  go_wp2_with fail
  refine HF.out.mono ?_
  rintro e w1 ⟨rfl, q, rfl⟩
  have hbd := below_drewN w q
  have hXd := HX.out.below hbd
  have hdw : Hid (Below w.heap.size w (w.drewN q)) := hbd
  generalize w.drewN q = wd at *
  have c1d := hXd.c1
  clear hbd HF HX
  go_wp2_with fail
  rw [show ((P : Int) + 1) = ((P + 1 : Nat) : Int) by omega]
  refine (delU_any gk cap n P (P + 1) ks wd hXd.ko h1k.out hp rfl).mono ?_
  rintro e w2 ⟨rfl, ho2, hk2⟩
  have hk2' : Kept wd w2 (fun k => (Value.slice (some ⟨gk, 0, none⟩) n cap).ownBlock = some k) := hk2.mono (fun i _ e => by have e' : i = gk := e; rw [e']; rfl)
  obtain ⟨hX3, hk3⟩ := hXd.setK ho2 hk2' (fun i hi => Or.inl hi)
  have hbx2 := (hk2'.block b (hXd.lt b hXd.fb) (fun e => (hXd.fk b e).2.1 rfl)).trans hXd.box
  have e1 := cell_of_row w2 b 1 _ _ _ hbx2
  have f1 := frozen_of_row w2 b 1 _ _ hbx2
  simp at e1
  have e2 := hX3.c2
  have HX3 : Hid _ := hidden hX3
  have HK3 : Hid _ := hidden hk3
  have HD : Hid _ := hidden hXd
  clear hbx2 ho2 hk2 hk2' hX3 hk3 c1d hXd
  go_wp2_with fail
  clear e1 f1 e2
  generalize w2.setCell ⟨b, 1, none⟩ (.slice (some ⟨gk, 0, none⟩) (n - 1) cap) = w3 at *
  rw [show ((P : Int) + 1) = ((P + 1 : Nat) : Int) by omega]
  have hX3 := HX3.out
  refine (delI_any gv vcap n P (P + 1) vs w3 hX3.vo h1v.out hp rfl).mono ?_
  rintro e w5 ⟨rfl, ho5, hk5⟩
  have hk5' : Kept w3 w5 (fun k => (Value.slice (some ⟨gv, 0, none⟩) n vcap).ownBlock = some k) := hk5.mono (fun i _ e => by have e' : i = gv := e; rw [e']; rfl)
  obtain ⟨hX6, hk6⟩ := hX3.setV ho5 hk5' (fun i hi => Or.inl hi)
  have hbx5 := (hk5'.block b (hX3.lt b hX3.fb) (fun e => (hX3.fv b e).2 rfl)).trans hX3.box
  have e2 := cell_of_row w5 b 2 _ _ _ hbx5
  have f2 := frozen_of_row w5 b 2 _ _ hbx5
  simp at e2
  have HX6 : Hid _ := hidden hX6
  have HK6 : Hid _ := hidden hk6
  clear hX6 hk6 hX3 hbx5 ho5 hk5 hk5'
  go_wp2
  go_ret
  have q1 := hdw.out
  have s1 := q1.size
  have s3 := HK3.out.size
  refine ⟨_, rfl, ⟨⟨_, _, by rw [HK.out, HV.out, HL.out]; exact HX6.out⟩, HS.out, by have := HL.out; omega, hsm⟩, ?_, ?_⟩
  · have a1 := (kept_of_below q1 F).trans HK3.out (fun _ _ e => e)
    refine a1.trans HK6.out (fun i hi e => ?_)
    rcases e with e | e
    · exact e
    · omega
  · intro i hi
    rcases hi with hi | hi
    · rcases hi with hi | hi
      · exact Or.inl hi
      · exact Or.inr (by omega)
    · exact Or.inr (by omega)
theorem dropUI_any (b most : Nat) (es : List (Nat × Int)) (F : Nat → Prop) (k : Nat) (w : World) (h : TBUI w b most es F) :
    Calls Try.prog 23 #[.pointer (some ⟨b, 0, none⟩), .int .u64 (k : Int)] w fun e w' => ∃ F', e = .returned (.bool (hasE ltN es k)) ∧ TBUI w' b most (dropE ltN es k) F' ∧ Kept w w' F ∧ GrownT w F F' := by
  unfold dropE
  cases hb : hasE ltN es k
  · rw [if_neg (by simp)]
    refine (dropUI_no b most es F k w h hb).mono ?_
    rintro e w' ⟨rfl, q, rfl⟩
    exact ⟨F, rfl, h.below (below_drewN w q), kept_of_below (below_drewN w q) F, GrownT.refl _ _⟩
  · rw [if_pos rfl]
    exact dropUI_has b most es F k w h hb

set_option maxRecDepth 20000 in
set_option maxHeartbeats 1000000 in
theorem keysUI_any (b most : Nat) (es : List (Nat × Int)) (F : Nat → Prop) (w : World) (h : TBUI w b most es F) :
    Calls Try.prog 34 #[.pointer (some ⟨b, 0, none⟩)] w fun e w' => e = .returned (.slice (some ⟨w.heap.size, 0, none⟩) es.length es.length) ∧ w'.heap[w.heap.size]? = some (.cells (es.map (fun e => kfU e.1)).toArray 42 (0, 0)) ∧ Below w.heap.size w w' := by
  obtain ⟨kr, vr, hx⟩ := h.tx
  have hn : es.length ≤ 4096 := by have := h.le; have := h.small; omega
  have hsr := own_sr hx.ko (k1UI es)
  have HSR : Hid _ := hidden hsr
  have c1 := hx.c1
  have hbw := hx.lt b hx.fb
  obtain ⟨ao, cap, rfl, hnc, hcm, _⟩ := own_slice hx.ko
  have hlk : (es.map (fun e => kfU e.1)).length = es.length := by simp
  have HLK : Hid _ := hidden hlk
  have h1k := hidden (k1UI es)
  obtain ⟨i0, hi0, hz0, hzs, hzb⟩ := info_parts Try.infoU
  clear hx h hsr hlk
  generalize es.map (fun e => kfU e.1) = ks at *
  generalize es.length = n at *
  have hsz : (Try.prog.info? 42).map (·.size) = some 1 := by kernel_rfl
  go_enter Try.func34, Try.ntmps34
  go_wp2_with (first
    | (at_make; refine wpList_make_row _ rfl _ _ 44 rfl 42 i0 _ Try.underlying44 hi0 hz0 hzs rfl _ _ _ _ n rfl rfl rfl rfl (by rw [hzb]; omega) (by unfold maxLen; omega) ?_; intro w1 hg1 hb1 hlt1; have c1' := (hb1.cell (p := ⟨b, 1, none⟩) hbw).trans c1; have hs1 := HSR.out.below hb1; have HG1 : Hid _ := hidden hg1; have HS1 : Hid _ := hidden hs1; clear hg1 hs1)
    | (refine wpList_copy_splice rfl (.tmp 10) (.tmp 14) 44 44 rfl 42 Try.underlying44 hsz _ _ _ _ _ _ rfl rfl w.heap.size 0 (List.replicate n (.int .u64 0)) 42 HG1.out ks (by rw [HLK.out]; simp) (fun hp => ⟨rfl, ?_⟩) (by rw [HLK.out]; simp) h1k.out w.heap.size w hb1 (Nat.le_refl _) ?_))
  · rcases HS1.out.val with ⟨h0, h1⟩ | ⟨ad, kk, h0, h1⟩
    · have := HLK.out
      omega
    · cases h0
      exact ⟨_, rfl, h1⟩
  · intro w2 HG2 hb2
    go_wp2
    go_ret
    have q := HG2.out
    rw [← HLK.out, splice_all] at q
    exact ⟨rfl, q, hb2⟩

/-! The same of a table that is new since a world. -/
@[reducible] def TOUI (B : Nat) (w0 w : World) (b most : Nat) (es : List (Nat × Int)) : Prop := TO ltN kfU vfUI 1 80 42 3 B w0 w b most es
theorem onewUI (B n : Nat) (h1 : 1 ≤ n) (h2 : n ≤ 4096) (w0 w : World) (hb : Below B w0 w) (hB : B ≤ w.heap.size) :
    Calls Try.prog 19 #[.int .i64 (n : Int)] w fun e w' => e = .returned (.tuple #[.pointer (some ⟨w.heap.size, 0, none⟩), .int .i64 0]) ∧ TOUI B w0 w' w.heap.size n [] ∧ Below w.heap.size w w' := by
  refine (newUI_ok n h1 h2 w).mono ?_
  rintro e w' ⟨rfl, h, hb', _⟩
  exact ⟨rfl, ⟨_, h, fun k hk => by have e : k = w.heap.size := hk; omega, hb.trans (hb'.mono hB)⟩, hb'⟩
theorem olenUI (B : Nat) (w0 w : World) (b most : Nat) (es : List (Nat × Int)) (h : TOUI B w0 w b most es) :
    Calls Try.prog 33 #[.pointer (some ⟨b, 0, none⟩)] w fun e w' => e = .returned (.int .i64 (es.length : Int)) ∧ w = w' := by
  obtain ⟨F, ht, _, _⟩ := h
  exact lenUI_any b most es F w ht
theorem ofirstUI (B : Nat) (w0 w : World) (b most : Nat) (es : List (Nat × Int)) (h : TOUI B w0 w b most es) :
    Calls Try.prog 29 #[.pointer (some ⟨b, 0, none⟩)] w fun e w' => e = .returned (okVUI (firstE es)) ∧ w = w' := by
  obtain ⟨F, ht, _, _⟩ := h
  exact firstUI_any b most es F w ht
theorem onextUI (B : Nat) (w0 w : World) (b most : Nat) (es : List (Nat × Int)) (k : Nat) (h : TOUI B w0 w b most es) :
    Calls Try.prog 25 #[.pointer (some ⟨b, 0, none⟩), .int .u64 (k : Int)] w fun e w' => e = .returned (okVUI (nextE ltN es k)) ∧ ∃ q, w' = w.drewN q := by
  obtain ⟨F, ht, _, _⟩ := h
  exact nextUI_any b most es F k w ht
theorem oafterUI (B : Nat) (w0 w : World) (b most : Nat) (es : List (Nat × Int)) (k : Nat) (h : TOUI B w0 w b most es) :
    Calls Try.prog 27 #[.pointer (some ⟨b, 0, none⟩), .int .u64 (k : Int)] w fun e w' => e = .returned (okVUI (afterE ltN es k)) ∧ ∃ q, w' = w.drewN q := by
  obtain ⟨F, ht, _, _⟩ := h
  exact afterUI_any b most es F k w ht
theorem ogetUI (B : Nat) (w0 w : World) (b most : Nat) (es : List (Nat × Int)) (k : Nat) (h : TOUI B w0 w b most es) :
    Calls Try.prog 21 #[.pointer (some ⟨b, 0, none⟩), .int .u64 (k : Int)] w fun e w' => e = .returned (ovVUI (getE ltN es k)) ∧ ∃ q, w' = w.drewN q := by
  obtain ⟨F, ht, _, _⟩ := h
  exact getUI_any b most es F k w ht
theorem oputUI (B : Nat) (w0 w : World) (b most : Nat) (es : List (Nat × Int)) (k : Nat) (v : Int) (h : TOUI B w0 w b most es) :
    Calls Try.prog 31 #[.pointer (some ⟨b, 0, none⟩), .int .u64 (k : Int), .int .i64 v] w fun e w' => e = .returned (.bool (putB ltN most es k)) ∧ TOUI B w0 w' b most (putE ltN most es k v) := by
  have hs := h.size
  obtain ⟨F, ht, hF, h0⟩ := h
  refine (putUI_any b most es F k v w ht).mono ?_
  rintro e w' ⟨F', rfl, h', hk, hg⟩
  exact ⟨rfl, TO.step hF h0 (by omega) h' hk hg⟩
theorem odropUI (B : Nat) (w0 w : World) (b most : Nat) (es : List (Nat × Int)) (k : Nat) (h : TOUI B w0 w b most es) :
    Calls Try.prog 23 #[.pointer (some ⟨b, 0, none⟩), .int .u64 (k : Int)] w fun e w' => e = .returned (.bool (hasE ltN es k)) ∧ TOUI B w0 w' b most (dropE ltN es k) := by
  have hs := h.size
  obtain ⟨F, ht, hF, h0⟩ := h
  refine (dropUI_any b most es F k w ht).mono ?_
  rintro e w' ⟨F', rfl, h', hk, hg⟩
  exact ⟨rfl, TO.step hF h0 (by omega) h' hk hg⟩
theorem okeysUI (B : Nat) (w0 w : World) (b most : Nat) (es : List (Nat × Int)) (h : TOUI B w0 w b most es) :
    Calls Try.prog 34 #[.pointer (some ⟨b, 0, none⟩)] w fun e w' => e = .returned (.slice (some ⟨w.heap.size, 0, none⟩) es.length es.length) ∧ w'.heap[w.heap.size]? = some (.cells (es.map (fun e => kfU e.1)).toArray 42 (0, 0)) ∧ TOUI B w0 w' b most es ∧ Below w.heap.size w w' := by
  have h' := h
  obtain ⟨F, ht, hF, h0⟩ := h
  refine (keysUI_any b most es F w ht).mono ?_
  rintro e w' ⟨rfl, hg, hb⟩
  exact ⟨rfl, hg, h'.below hb, hb⟩

end Go.Proofs.Ytofpkmionbbmcaa
