/- ArenaAll, walked. -/
import Derived.Test.YtolgncehfblpbaaDoorArS
import Derived.Test.YtolgncehfblpbaaDoorWsl
import Derived.Deep.CutRange
import Derived.Deep.CutBlock
namespace Go.Proofs.YtolgncehfblpbaaDoor
open Go.RowKit

/-- Of the arena just the places at are taken. -/
structure AL (w wr : World) (g N : Nat) (bs : List Bk) (at' : List Nat) (v : Value) : Prop where
  s : AS w wr g N bs
  own : Ow wr (g + 1) v at'
  nd : at'.Nodup
  mem : ∀ c : Nat, c ∈ at' ↔ atB bs (c : Int) ≠ 0
theorem atB_new (n c : Nat) : atB (List.replicate n bk0) (c : Int) = 0 := by
  rw [atB_nat]
  split
  · next h =>
    rw [getD_at h, List.getElem_replicate]
    exact atN_zero rfl
  · rfl
theorem AL.new {w wr : World} {g N : Nat} (h : AS w wr g N (List.replicate N bk0)) : AL w wr g N (List.replicate N bk0) [] (.slice none 0 0) :=
  ⟨h, Ow.nil _ _, List.nodup_nil, fun c => by simp [atB_new]⟩
/-- One more. -/
theorem AL.more {w wr w5 : World} {g N : Nat} {bs bs' : List Bk} {at' : List Nat} {v v' : Value} {c k : Nat} (h : AL w wr g N bs at' v) (hg : Got bs bs' c k) (hk0 : 0 < k) (hs : AS w w5 g N bs') (ho : Ow w5 (g + 1) v' (at' ++ [c])) : AL w w5 g N bs' (at' ++ [c]) v' := by
  have hc : c ∉ at' := fun e => (h.mem c).1 e hg.was
  refine ⟨hs, ho, ?_, fun d => ?_⟩
  · rw [List.nodup_append]
    exact ⟨h.nd, by simp, fun a ha b hb => by rw [List.mem_singleton] at hb; subst hb; exact fun e => hc (e ▸ ha)⟩
  · rw [List.mem_append, List.mem_singleton]
    by_cases e : d = c
    · subst e
      rw [hg.is]
      simp; omega
    · rw [hg.els d e, ← h.mem d]
      simp [e]
theorem mem_less {l : List Nat} (hnd : l.Nodup) (k : Nat) (hk : k < l.length) (d : Nat) : d ∈ l.take k ++ l.drop (k + 1) ↔ d ∈ l ∧ d ≠ l[k] := by
  have e : l = l.take k ++ l[k] :: l.drop (k + 1) := by
    rw [← List.drop_eq_getElem_cons hk, List.take_append_drop]
  have hnd2 := hnd
  rw [e] at hnd2
  rw [List.nodup_append] at hnd2
  obtain ⟨_, h2, h3⟩ := hnd2
  rw [List.nodup_cons] at h2
  constructor
  · intro h
    rw [List.mem_append] at h
    rcases h with h | h
    · exact ⟨List.mem_of_mem_take h, h3 d h _ List.mem_cons_self⟩
    · exact ⟨List.mem_of_mem_drop h, fun e => h2.1 (e ▸ h)⟩
  · rintro ⟨h, hne⟩
    rw [e] at h
    rw [List.mem_append, List.mem_cons] at h
    rw [List.mem_append]
    rcases h with h | h | h
    · exact Or.inl h
    · exact absurd h hne
    · exact Or.inr h
theorem nodup_less {l : List Nat} (hnd : l.Nodup) (k : Nat) : (l.take k ++ l.drop (k + 1)).Nodup := by
  have hs : (l.take k ++ l.drop (k + 1)).Sublist (l.take k ++ l.drop k) := List.Sublist.append (List.Sublist.refl _) (by
    rw [show l.drop (k + 1) = (l.drop k).drop 1 by rw [List.drop_drop]]
    exact List.drop_sublist _ _)
  rw [List.take_append_drop] at hs
  exact hnd.sublist hs
theorem len_less {l : List Nat} (k : Nat) (hk : k < l.length) : (l.take k ++ l.drop (k + 1)).length = l.length - 1 := by
  rw [List.length_append, List.length_take, List.length_drop]
  omega
/-- One less. -/
theorem AL.less {w wr w5 : World} {g N : Nat} {bs : List Bk} {at' : List Nat} {v v' : Value} {k : Nat} (h : AL w wr g N bs at' v) (hk : k < at'.length) (hs : AS w w5 g N (freeL bs (at'[k] : Int))) (ho : Ow w5 (g + 1) v' (at'.take k ++ at'.drop (k + 1))) : AL w w5 g N (freeL bs (at'[k] : Int)) (at'.take k ++ at'.drop (k + 1)) v' := by
  obtain ⟨_, h2, h3⟩ := free_spec h.s.ok ((h.mem _).1 (List.getElem_mem hk))
  refine ⟨hs, ho, nodup_less h.nd k, fun d => ?_⟩
  rw [mem_less h.nd k hk]
  by_cases e : d = at'[k]
  · rw [e, h2]; simp
  · rw [h3 d e, h.mem d]; simp [e]
theorem AL.read {w wr w' : World} {g N : Nat} {bs : List Bk} {at' : List Nat} {v : Value} (h : AL w wr g N bs at' v) (hb : Below wr.heap.size wr w') : AL w w' g N bs at' v := ⟨h.s.read hb, h.own.below hb, h.nd, h.mem⟩

/-- An arena whose blocks are free: Alloc(16). -/
theorem full_alloc (n : Nat) (hn : 1 ≤ n) : allocR (List.replicate n bk0) 16 = (0, 0) ∧ usedB (allocL (List.replicate n bk0) 16) = 16 := by
  have hc : classN 16 = 16 := by kernel_rfl
  have hp : pickB 16 (List.replicate n bk0) = some 0 := by
    have h1 : firstB 16 16 (List.replicate n bk0) = none := firstB_none (fun x hx => by rw [List.eq_of_mem_replicate hx]; kernel_rfl)
    have h2 : firstB 0 16 (List.replicate n bk0) = some 0 := firstB_some (by simp; omega) (by rw [List.getElem_replicate]; kernel_rfl) (by simp)
    unfold pickB
    rw [h1, h2]
  have hl : 0 < (List.replicate n bk0).length := by simp; omega
  have h0 : (List.replicate n bk0)[0] = bk0 := List.getElem_replicate ..
  unfold allocR allocL
  rw [hc, if_neg (by decide), if_neg (by decide), hp]
  simp only [getD_at hl, h0]
  refine ⟨by kernel_rfl, ?_⟩
  have hs := sum_set usedN (takeB bk0 16) (List.replicate n bk0) 0 hl
  rw [h0] at hs
  have e1 : usedN bk0 = 0 := by kernel_rfl
  have e2 : usedN (takeB bk0 16) = 16 := by kernel_rfl
  have e3 : ((List.replicate n bk0).map usedN).sum = 0 := by rw [List.map_replicate, e1]; simp
  unfold usedB
  omega

set_option maxRecDepth 20000 in
set_option maxHeartbeats 2000000 in
theorem arenaAll_any (nb : Int) (xs ys : List Int) (v vo : Value) (w : World) (hT : TB w) (hv : WS w v 1 cInt xs) (hvo : WS w vo 1 cInt ys) :
    Calls Tryd.prog 7 #[.int .i64 nb, v, vo] w fun e w' => e = .returned (.bool true) ∧ Below w.heap.size w w' := by
  obtain ⟨ao, cap, rfl, _, _⟩ := hv.slice
  obtain ⟨bo, bcap, rfl, _, _⟩ := hvo.slice
  have hP := pickN_lt nb 12 (by omega)
  obtain ⟨N, hN⟩ : ∃ N, N = 1 + pickN nb 12 := ⟨_, rfl⟩
  have hNi : (1 : Int) + (pickN nb 12 : Int) = (N : Int) := by omega
  have hN1 : 1 ≤ N := by omega
  have hN2 : N ≤ 12 := by omega
  clear hN hP
  go_enter Tryd.func7, Tryd.ntmps7
  go_wp2_with fail
  refine (pick_any nb 12 (by omega) (by omega) _).mono ?_
  rintro e _ ⟨rfl, rfl⟩
  go_wp2_with fail
  refine (new_mul N hN1 (by omega) _ hT).mono ?_
  rintro e w1 ⟨rfl, h1, hb1⟩
  generalize hG : w.heap.size = g at *
  have hs1 := AS.new h1 hb1
  clear h1 hb1
  go_upto_block 0 with (go_at_call 10; refine (known_any _ hs1.ar.tb).mono ?_; rintro e w2 ⟨rfl, hb2⟩; have hs2 := AL.new (hs1.read hb2); clear hb2 hs1)
  go_cut [9, 10, 11, 12] from 38 to 64 (fun va _ _ _ wc => ∃ bs at', at'.length ≤ 300 ∧ AL w wc g N bs at' va)
  case first =>
    go_wp2
    go_loopw [9, 10] (fun va i wr => ∃ (k : Nat) (bs : List Bk) (at' : List Nat), i = .int .i64 (k : Int) ∧ k ≤ 300 ∧ at'.length ≤ k ∧ AL w wr g N bs at' va) (fun _ i _ => 300 - (intOf i).toNat)
    case atStart => exact ⟨0, _, [], rfl, by omega, by simp, hs2⟩
    case round =>
      obtain ⟨k, bs, at', rfl, hk, hl, hs3⟩ := hrel
      clear hs2
      by_cases hlt : k < xs.length ∧ k < 300
      · obtain ⟨hlt, h300⟩ := hlt
        have hk0 : (k : Int) < (xs.length : Int) := by omega
        have hk5 : (k : Int) < 300 := by omega
        obtain ⟨b, off, hao, hbl, hc⟩ := (hv.below (by rw [hG]; exact hs3.s.bel)).c1 (g := Value.int .i64) (fun _ => rfl) k hlt
        subst hao
        have hp16 := pickN_lt xs[k] 16 (by omega)
        generalize xs[k] = x at *
        obtain ⟨s, hs⟩ : ∃ s, s = 1 + pickN x 16 := ⟨_, rfl⟩
        have hsi : (1 : Int) + (pickN x 16 : Int) = (s : Int) := by omega
        have hA := fun wr (h : AS w wr g N bs) => h.alloc (s : Int)
        rcases allocR_err (bs := bs) (s := (s : Int)) (by omega) (by omega) with hE | ⟨hE, hL⟩
        · have HG : Hid (Got bs (allocL bs s) (allocR bs s).1 (classN s)) := alloc_spec hs3.s.ok (by omega) (by omega) hE
          have HK : Hid (0 < classN s) := (classN_is (s := (s : Int)) (by omega) (by omega)).1.pos
          rw [hE] at hA
          generalize (allocR bs s).1 = c at *
          generalize allocL bs s = bs' at *
          generalize classN s = kk at *
          clear hE hs
          go_wp2_with (first
            | (go_at_call 20; refine (pick_any x 16 (by omega) (by omega) _).mono ?_; rintro e _ ⟨rfl, rfl⟩)
            | (go_at_call 11; refine (hA _ hs3.s).mono ?_; rintro e w4 ⟨rfl, hs4, hk4⟩; have ho4 := hs3.own.kept hk4 (fun j hj => by have := (hs3.own.ge j hj).1; show ¬ (j = g); omega))
            | (at_builtin; refine wpList_ow rfl (.tmp 61) (.tmp 63) rfl (g + 1) _ at' rfl (ho4.below ((Below.refl _ _).alloc (Nat.le_refl _) _)) _ [c] rfl (sr_one w4 c _) (by simp; omega) (by have := hs4.ar.lt; simp; omega) ?_; intro v5 w5 ho5 hk5 _; have hs5 := (hs4.read ((Below.refl _ _).alloc (Nat.le_refl _) _)).keep hk5 (fun j hj e => by have := (ho4.ge j e).1; omega)))
          go_roundw
          case rel => exact ⟨k + 1, bs', at' ++ [c], by go_num, by omega, by simp; omega, hs3.more HG.out HK.out hs5 ho5⟩
          case measure => simp [intOf]; omega
        · rw [hE, hL] at hA
          generalize (allocR bs s).1 = c at *
          clear hE hs hL
          go_wp2_with (first
            | (go_at_call 20; refine (pick_any x 16 (by omega) (by omega) _).mono ?_; rintro e _ ⟨rfl, rfl⟩)
            | (go_at_call 11; refine (hA _ hs3.s).mono ?_; rintro e w4 ⟨rfl, hs4, hk4⟩; have ho4 := hs3.own.kept hk4 (fun j hj => by have := (hs3.own.ge j hj).1; show ¬ (j = g); omega)))
          go_roundw
          case rel => exact ⟨k + 1, bs, at', by go_num, by omega, by omega, ⟨hs4, ho4, hs3.nd, hs3.mem⟩⟩
          case measure => simp [intOf]; omega
      · by_cases hk1 : (k : Int) < (xs.length : Int)
        · have hk2 : ¬ ((k : Int) < 300) := by omega
          go_wp2
          go_meet
          exact ⟨bs, at', by omega, hs3⟩
        · go_wp2
          go_meet
          exact ⟨bs, at', by omega, hs3⟩
  case rest =>
    obtain ⟨bs, at', hl, hs3⟩ := hcut
    obtain ⟨wy, hwy⟩ : ∃ x, x = wc := ⟨_, rfl⟩
    subst hwy
    clear hs2
    obtain ⟨M, hM⟩ : ∃ M, M = at'.length := ⟨_, rfl⟩
    have hM3 : M ≤ 300 := by omega
    go_wp2
    go_loopw [9, 13] (fun va i wr => ∃ (j : Nat) (bs : List Bk) (at' : List Nat), i = .int .i64 (j : Int) ∧ j + at'.length = M ∧ AL w wr g N bs at' va) (fun _ i _ => M - (intOf i).toNat)
    case atStart => exact ⟨0, bs, at', rfl, by omega, hs3⟩
    case round =>
      clear hs3 hM hl
      clear at' bs
      obtain ⟨j, bs, at', rfl, hj, hs4⟩ := hrel
      by_cases hpos : 0 < at'.length
      · obtain ⟨ga, ac, hve, hga, hgl, hac, hcell⟩ := hs4.own.at 0 hpos
        subst hve
        have hposi : (0 : Int) < (at'.length : Int) := by omega
        have hlen3 : at'.length ≤ 300 := by omega
        have HJ : Hid (j + at'.length = M) := hj
        clear hj
        have hj3 : j ≤ 300 := by have := HJ.out; omega
        go_upto_if 73 with fail
        go_cut [14] from 65 to 106 (fun kv wc => ∃ k : Nat, kv = .int .i64 (k : Int) ∧ k < at'.length ∧ AL w wc g N bs at' (.slice (some ⟨ga, 0, none⟩) at'.length ac))
        case first =>
          by_cases hjo : j < ys.length
          · have hjo0 : (j : Int) < (ys.length : Int) := by omega
            obtain ⟨b, off, hao, hbl, hc⟩ := (hvo.below (by rw [hG]; exact hs4.s.bel)).c1 (g := Value.int .i64) (fun _ => rfl) j hjo
            subst hao
            have hpk := pickN_lt ys[j] at'.length hpos
            generalize ys[j] = y at *
            go_wp2_with (go_at_call 20; refine (pick_any y at'.length hpos (by omega) _).mono ?_; rintro e _ ⟨rfl, rfl⟩)
            go_meet
            exact ⟨_, rfl, hpk, hs4⟩
          · have hjo0 : ¬ (j : Int) < (ys.length : Int) := by omega
            go_wp2
            go_meet
            exact ⟨0, rfl, hpos, hs4⟩
        case rest =>
          obtain ⟨k, rfl, hk, hs5⟩ := hcut
          obtain ⟨wz, hwz⟩ : ∃ x, x = wc := ⟨_, rfl⟩
          subst hwz
          clear hs4 hcell hgl
          obtain ⟨ga', ac', hve, _, hgl, _, hcell⟩ := hs5.own.at 0 hpos
          cases hve
          have hki : (k : Int) < (at'.length : Int) := by omega
          have hck := hcell k hk
          obtain ⟨hR, hz, _⟩ := free_spec hs5.s.ok ((hs5.mem _).1 (List.getElem_mem hk))
          obtain ⟨hR2, hL2⟩ := free_none hz
          have hF1 := fun wr (h : AS w wr g N bs) => h.free (at'[k] : Int)
          have hF2 := fun wr (h : AS w wr g N (freeL bs (at'[k] : Int))) => h.free (at'[k] : Int)
          rw [hR] at hF1
          rw [hR2, hL2] at hF2
          have HL : Hid (∀ (w5 : World) (v' : Value), AS w w5 g N (freeL bs (at'[k] : Int)) → Ow w5 (g + 1) v' (at'.take k ++ at'.drop (k + 1)) → AL w w5 g N (freeL bs (at'[k] : Int)) (at'.take k ++ at'.drop (k + 1)) v') := fun w5 v' h1 h2 => hs5.less hk h1 h2
          have HN : Hid (j + 1 + (at'.take k ++ at'.drop (k + 1)).length = M) := by
            have e : j + 1 + (at'.take k ++ at'.drop (k + 1)).length = M := by rw [len_less k hk]; have := HJ.out; omega
            exact e
          clear hR hz hR2 hL2 hcell
          generalize freeL bs (at'[k] : Int) = bs1 at *
          generalize at'[k] = c at *
          have hkc : (k : Int) ≤ (ac : Int) := by omega
          have hkn : (k : Int) ≤ (at'.length : Int) := by omega
          have hkn1 : (k : Int) + 1 ≤ (at'.length : Int) := by omega
          have hkn0 : (0 : Int) ≤ (k : Int) + 1 := by omega
          have hwk : IntKind.i64.wrap ((k : Int) + 1) = (k : Int) + 1 := by rw [IntKind.wrap_i64]; omega
          have ho5 := hs5.own
          go_wp2_with (first
            | (go_at_call 16; refine (hF1 _ hs5.s).mono ?_; clear hF1; rintro e w6 ⟨rfl, hs6, hk6⟩; have hck6 : w6.cell? ⟨ga, k, none⟩ = some (.int .i64 (c : Int)) := (World.cell?_of_block (a := ⟨ga, k, none⟩) (hk6.block ga hgl (by show ¬ (ga = g); omega))).trans hck; have ho6 := ho5.kept hk6 (fun j hj => by have := (ho5.ge j hj).1; show ¬ (j = g); omega))
            | (go_at_call 16; refine (hF2 _ hs6).mono ?_; clear hF2; rintro e w7 ⟨rfl, hs7, hk7⟩; have ho7 := ho6.kept hk7 (fun j hj => by have := (ho6.ge j hj).1; show ¬ (j = g); omega)))
          have hg7 : g < w7.heap.size := hs7.ar.lt
          have q1 : ∀ o, Below w7.heap.size w7 (w7.alloc o).drew := fun o => ((Below.refl _ _).alloc (Nat.le_refl _) o).drew
          have hE1 : (w7.alloc (.cells #[] 3)).drew.heap[w7.heap.size]? = some (.cells #[] 3 (0, 0)) := heap_alloc_new w7 _
          have hp1 := ho7.pre k (by omega) hpos
          have HL1 : Hid ((at'.take k).length = k) := by have e : (at'.take k).length = k := by { rw [List.length_take]; omega }; exact e
          have HL2 : Hid ((at'.drop (k + 1)).length ≤ 300) := by have e : (at'.drop (k + 1)).length ≤ 300 := by { rw [List.length_drop]; omega }; exact e
          have hp2 := fun c => ho7.post (k + 1) (by omega) hpos c
          by_cases hcap : ac = k + 1
          · have HN1 : Hid (at'.length = k + 1) := by have e : at'.length = k + 1 := by { omega }; exact e
            have HD : Hid (at'.drop (k + 1) = []) := by have e : at'.drop (k + 1) = [] := List.drop_of_length_le (by omega); exact e
            subst hcap
            have hkk : (k : Int) ≤ (k : Int) + 1 := by omega
            go_region_law (first
              | (refine step_ow rfl (.tmp 97) (.tmp 100) rfl (g + 1) (.slice (some ⟨w7.heap.size, 0, none⟩) 0 0) [] rfl (ow_empty hE1 (by omega)) _ (at'.take k) rfl (hp1.below (q1 _)) (by rw [HL1.out]; simp; omega) (by simp [World.drew]; omega) ?_; intro v8 w8 ho8 hk8 _; have hb8 : Below w7.heap.size w7 w8 := (q1 _).trans (hk8.below (by simp [World.drew]) (fun j hj e => by simp only [Value.ownBlock, Option.some.injEq] at e; omega)); have hs8 := hb8.size)
              | (refine step_ow rfl (.tmp 101) (.tmp 105) rfl (g + 1) v8 ([] ++ at'.take k) rfl ho8 _ ([] : List Nat) rfl (sr_zero _ _ _ _ (by have := HN1.out; omega)) (by rw [List.nil_append, HL1.out]; simp; omega) (by omega) ?_; intro v9 w9 ho9 hk9 _; have hs9 : AS w w9 g N bs1 := (hs7.read hb8).keep hk9 (fun j hj e => by have := (ho8.ge j e).1; omega)))
            all_goals
              have ho9' : Ow w9 (g + 1) v9 (at'.take k ++ at'.drop (k + 1)) := by rw [HD.out]; simpa using ho9
              go_simp
              go_wp2
              go_roundw
              case rel => exact ⟨j + 1, bs1, _, by go_num, HN.out, HL.out _ _ hs9 ho9'⟩
              case measure => have := HJ.out; simp [intOf]; omega
          · have hkc2 : ¬ ac = k + 1 := hcap
            have hkc3 : ¬ ac - (k + 1) = 0 := by omega
            go_region_law (first
              | (refine step_ow rfl (.tmp 97) (.tmp 100) rfl (g + 1) (.slice (some ⟨w7.heap.size, 0, none⟩) 0 0) [] rfl (ow_empty hE1 (by omega)) _ (at'.take k) rfl (hp1.below (q1 _)) (by rw [HL1.out]; simp; omega) (by simp [World.drew]; omega) ?_; intro v8 w8 ho8 hk8 _; have hb8 : Below w7.heap.size w7 w8 := (q1 _).trans (hk8.below (by simp [World.drew]) (fun j hj e => by simp only [Value.ownBlock, Option.some.injEq] at e; omega)); have hs8 := hb8.size)
              | (refine step_ow rfl (.tmp 101) (.tmp 105) rfl (g + 1) v8 ([] ++ at'.take k) rfl ho8 _ (at'.drop (k + 1)) rfl ((hp2 _).below hb8) (by rw [List.nil_append, HL1.out]; have := HL2.out; omega) (by omega) ?_; intro v9 w9 ho9 hk9 _; have hs9 : AS w w9 g N bs1 := (hs7.read hb8).keep hk9 (fun j hj e => by have := (ho8.ge j e).1; omega)))
            all_goals
              have ho9' : Ow w9 (g + 1) v9 (at'.take k ++ at'.drop (k + 1)) := by simpa using ho9
              go_simp
              go_wp2
              go_roundw
              case rel => exact ⟨j + 1, bs1, _, by go_num, HN.out, HL.out _ _ hs9 ho9'⟩
              case measure => have := HJ.out; simp [intOf]; omega
      · have hz : at' = [] := List.eq_nil_of_length_eq_zero (by omega)
        subst hz
        obtain ⟨aa, ac, hve, _, _, _⟩ := hs4.own.slice
        subst hve
        have hbz : bs = List.replicate N bk0 := by
          have h := all_free hs4.s.ok (fun c => by
            have := hs4.mem c
            simpa using this)
          rwa [hs4.s.len] at h
        subst hbz
        have hs5 := hs4.s
        clear hs4 hj hpos
        go_wp2_with (go_at_call 12; refine (blocks_any g _ _ hs5.ar).mono ?_; rintro e w6 ⟨rfl, hr6, hb6⟩; have hs6 := hs5.read hb6; have hgw := hs5.ar.lt; clear hs5 hb6)
        have hr7 : Row w6 wr.heap.size 3 (List.replicate N (.int .i64 0)) := by
          have h := hr6
          rw [List.map_replicate] at h
          exact h
        clear hr6
        generalize wr.heap.size = gb at *
        go_loopw [16] (fun i wr => ∃ m : Nat, i = .int .i64 (m : Int) ∧ m ≤ N ∧ wr = w6) (fun i _ => N - (intOf i).toNat)
        case atStart => exact ⟨0, rfl, by omega, rfl⟩
        case round =>
          obtain ⟨m, rfl, hm, rfl⟩ := hrel
          by_cases hmN : m < N
          · have hmi : (m : Int) < (N : Int) := by omega
            have hc : wr.cell? ⟨gb, m, none⟩ = some (.int .i64 0) := by
              rw [hr7.cell m (by simpa using hmN), List.getElem_replicate]
            go_wp2
            go_roundw
            case rel => exact ⟨m + 1, by go_num, by omega, trivial⟩
            case measure => simp [intOf]; omega
          · have hmi : ¬ (m : Int) < (N : Int) := by omega
            obtain ⟨hE, hU⟩ := full_alloc N hN1
            have hA := fun wr (h : AS w wr g N (List.replicate N bk0)) => h.alloc 16
            rw [hE] at hA
            have hB := fun wr (h : AS w wr g N (allocL (List.replicate N bk0) 16)) => h.used
            rw [hU] at hB
            clear hE hU
            go_wp2_with (first
              | (go_at_call 11; refine (hA _ hs6).mono ?_; rintro e w8 ⟨rfl, hs8, _⟩)
              | (go_at_call 15; refine (hB _ hs8).mono ?_; rintro e w9 ⟨rfl, hs9, _⟩))
            go_ret
            exact ⟨rfl, by rw [hG]; exact hs9.bel⟩
end Go.Proofs.YtolgncehfblpbaaDoor
