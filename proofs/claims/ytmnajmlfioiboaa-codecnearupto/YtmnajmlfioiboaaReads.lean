/- What the law reads by both: the walk of 'reads'. -/
import Derived.Test.YtmnajmlfioiboaaWalkN
import Derived.Test.YtmnajmlfioiboaaLaid
import Derived.Test.YtmnajmlfioiboaaWalkF
import Derived.Deep.RegionHeld
namespace Go.Proofs.Ytmnajmlfioiboaa
open Go.RowKit

/-- One thing that is asked for. -/
structure AskD where
  what : Int
  b : Nat
  n : Nat
  t : Int

structure AskAt (w : World) (blk o : Nat) (d : AskD) : Prop where
  c0 : w.cell? ⟨blk, o, none⟩ = some (.int .i64 d.what)
  c1 : w.cell? ⟨blk, o + 1, none⟩ = some (.int .u8 (d.b : Int))
  c2 : w.cell? ⟨blk, o + 2, none⟩ = some (.int .u64 (d.n : Int))
  c3 : w.cell? ⟨blk, o + 3, none⟩ = some (.int .i64 d.t)
  t : d.t ≤ 9223372036854775807

def Asks (w : World) (v : Value) (ds : List AskD) : Prop :=
  ∃ ao cap, v = .slice ao ds.length cap ∧ (ds ≠ [] → ∃ blk off, ao = some ⟨blk, off, none⟩ ∧ blk < w.heap.size ∧ ∀ i (hi : i < ds.length), AskAt w blk (off + i * 4) ds[i])

theorem AskAt.below {w w' : World} {B blk o : Nat} {d : AskD} (h : AskAt w blk o d) (hb : Below B w w') (hlt : blk < B) : AskAt w' blk o d :=
  ⟨(hb.cell (p := ⟨blk, o, none⟩) hlt).trans h.c0, (hb.cell (p := ⟨blk, o + 1, none⟩) hlt).trans h.c1, (hb.cell (p := ⟨blk, o + 2, none⟩) hlt).trans h.c2, (hb.cell (p := ⟨blk, o + 3, none⟩) hlt).trans h.c3, h.t⟩

theorem Asks.below {w w' : World} {v : Value} {ds : List AskD} (h : Asks w v ds) (hb : Below w.heap.size w w') : Asks w' v ds := by
  obtain ⟨ao, cap, rfl, hx⟩ := h
  refine ⟨ao, cap, rfl, fun hne => ?_⟩
  obtain ⟨blk, off, rfl, hlt, hat⟩ := hx hne
  exact ⟨blk, off, rfl, Nat.lt_of_lt_of_le hlt hb.size, fun i hi => (hat i hi).below hb hlt⟩

theorem pick4 (n : Int) : pickN n 4 = 0 ∨ pickN n 4 = 1 ∨ pickN n 4 = 2 ∨ pickN n 4 = 3 := by
  have := pickN_lt n 4 (by omega)
  omega

/-- Both Readers, and the copy that was handed to the first. -/
structure Both (w0 w : World) (rb g fb : Nat) (ao : Option Addr) (cap : Nat) (ov : Value) (L : List UInt8) (p e : Nat) : Prop where
  rd : RD w rb g L p e
  rf : RF w fb ao cap L p e
  own : Bs w ov L
  bel : Below w0.heap.size w0 w
  g0 : w0.heap.size ≤ g
  fb1 : rb < fb
  oa : ∀ k, L ≠ [] → (Value.slice ao L.length cap).ownBlock = some k → k < w0.heap.size
  oo : ∀ k, L ≠ [] → ov.ownBlock = some k → k < g

section
variable {w0 w w' : World} {rb g fb cap : Nat} {ao : Option Addr} {ov : Value} {L : List UInt8} {p e p' e' : Nat}
/-- The first goes on. -/
theorem Both.rstep (h : Both w0 w rb g fb ao cap ov L p e) (k : RTo w w' rb g L p' e') : RF w' fb ao cap L p e ∧ Bs w' ov L ∧ Below w0.heap.size w0 w' := by
  have hlt := h.rd.lt
  have hg := h.g0
  have hf := h.fb1
  have hz := h.bel.size
  refine ⟨h.rf.keep k.kept (by omega) (fun j hne hj _ e => by have := h.oa j hne hj; omega), h.own.kept k.kept (fun j hne hj _ e => by have := h.oo j hne hj; omega), h.bel.trans (k.bel (by omega) hz)⟩
/-- And the second. -/
theorem Both.step {w1 : World} (h : Both w0 w rb g fb ao cap ov L p e) (k : RTo w w1 rb g L p' e') (f : FTo w1 w' fb ao cap L p' e') : Both w0 w' rb g fb ao cap ov L p' e' := by
  obtain ⟨_, h2, h3⟩ := h.rstep k
  have hlt := h.rd.lt
  have hg := h.g0
  have hf := h.fb1
  exact ⟨k.rd.keep f.kept (by omega) (by omega), f.rd, h2.kept f.kept (fun j hne hj _ e => by have := h.oo j hne hj; omega), h3.trans (f.bel (by omega) h3.size), hg, hf, h.oa, h.oo⟩
/-- Other blocks turn. -/
theorem Both.keep {S : Nat → Prop} (h : Both w0 w rb g fb ao cap ov L p e) (k : Kept w w' S) (hs : ∀ j, S j → fb < j) : Both w0 w' rb g fb ao cap ov L p e := by
  have hlt := h.rd.lt
  have hg := h.g0
  have hf := h.fb1
  have hz := h.bel.size
  exact ⟨h.rd.keep k (fun e => by have := hs _ e; omega) (fun e => by have := hs _ e; omega), h.rf.keep k (fun e => by have := hs _ e; omega) (fun j hne hj _ e => by have := h.oa j hne hj; have := hs _ e; omega),
    h.own.kept k (fun j hne hj _ e => by have := h.oo j hne hj; have := hs _ e; omega), h.bel.trans (k.below hz (fun j hj e => by have := hs _ e; omega)), hg, hf, h.oa, h.oo⟩
theorem Both.below (h : Both w0 w rb g fb ao cap ov L p e) (hb : Below w.heap.size w w') : Both w0 w' rb g fb ao cap ov L p e := h.keep (kept_of_below hb (fun _ => False)) (fun _ e => e.elim)
end

theorem FTo.cell {w w' : World} {fb cap : Nat} {ao : Option Addr} {L : List UInt8} {p e : Nat} (h : FTo w w' fb ao cap L p e) {b o : Nat} (hb : b < fb) (hs : b < w.heap.size) : w'.cell? ⟨b, o, none⟩ = w.cell? ⟨b, o, none⟩ :=
  World.cell?_of_block (a := ⟨b, o, none⟩) (h.kept.block b hs (by omega))
theorem RTo.rcell {w w' : World} {rb g : Nat} {L : List UInt8} {p e : Nat} (h : RTo w w' rb g L p e) {b o : Nat} (hb : b < rb) (hs : b < w.heap.size) : w'.cell? ⟨b, o, none⟩ = w.cell? ⟨b, o, none⟩ :=
  World.cell?_of_block (a := ⟨b, o, none⟩) (h.kept.block b hs (by omega))

theorem rText_len (L : List UInt8) (p e most : Nat) : (rText L p e most).1.length ≤ L.length := by
  unfold rText
  split
  · simp
  · split
    · simp
    · simp; omega

/-- The text that came out of the first lies in memory of its own. -/
def Fresh (w : World) (fb : Nat) (xo : Option Addr) (n : Nat) : Prop := n = 0 ∨ ∃ k cs, xo = some ⟨k, 0, none⟩ ∧ fb < k ∧ w.heap[k]? = some (.cells cs 5 (0, 0)) ∧ cs.size = n
theorem NewBs.fresh {w w' : World} {v : Value} {l : List UInt8} {fb : Nat} (h : NewBs w w' v l) (hf : fb < w.heap.size) : ∃ xo n, v = .slice xo n n ∧ n = l.length ∧ Fresh w' fb xo n := by
  rcases h with ⟨rfl, rfl⟩ | ⟨k, hk, rfl, hg⟩
  · exact ⟨none, 0, rfl, rfl, Or.inl rfl⟩
  · exact ⟨_, _, rfl, rfl, Or.inr ⟨k, _, rfl, by omega, hg, by simp⟩⟩
theorem Fresh.keep {w w' : World} {fb n : Nat} {xo : Option Addr} {S : Nat → Prop} (h : Fresh w fb xo n) (hk : Kept w w' S) (hs : ∀ j, fb < j → ¬ S j) : Fresh w' fb xo n := by
  rcases h with h | ⟨k, cs, h1, h2, h3, h4⟩
  · exact Or.inl h
  · exact Or.inr ⟨k, cs, h1, h2, (hk.block k (Array.getElem?_eq_some_iff.1 h3).1 (hs k h2)).trans h3, h4⟩

set_option maxRecDepth 20000 in
set_option maxHeartbeats 4000000 in
theorem reads_any (v u : Value) (L : List UInt8) (ds : List AskD) (w : World) (hv : Bs w v L) (hu : Asks w u ds) (hl : L.length ≤ 140737488355328) (hn : ds.length ≤ 140737488355328) :
    Calls Try.prog 26 #[v, u] w fun e w' => e = .returned (.bool true) ∧ Below w.heap.size w w' := by
  obtain ⟨i, hi, hz0, hz1, hz2⟩ := info_parts Try.infoByte
  obtain ⟨uo, ucap, rfl, hx⟩ := id hu
  have hv0 := hv
  obtain ⟨ao, cap, rfl, hc, hxx⟩ := hv
  have hoa : ∀ k, L ≠ [] → (Value.slice ao L.length cap).ownBlock = some k → k < w.heap.size := by
    intro k hne hk
    obtain ⟨b, off, rfl, hlt, _⟩ := hxx hne
    simp only [Value.ownBlock, Option.some.injEq] at hk
    omega
  clear hxx
  go_enter Try.func26, Try.ntmps26
  go_wp2_with (first
    | (at_builtin; refine wpList_append_bs rfl (.tmp 12) (.tmp 13) 24 rfl w.heap.size 5 i Try.underlying24 hi hz0 hz1 hz2 (.slice (some ⟨w.heap.size, 0, none⟩) 0 0) 0 [] rfl rfl (World.ownsRow_lit w #[] 0 (Nat.le_refl _) (by simp [maxLen]) rfl) _ rfl L (hv0.below ((Below.refl _ _).alloc (Nat.le_refl _) _)) (by omega) (by simp) ?_; intro v1 w1 hown1 hkept1 hmoved1; have hb1 := ((Below.refl w.heap.size w).alloc (Nat.le_refl _) _).trans (own_below (World.ownsRow_lit w #[] 0 (Nat.le_refl _) (by simp [maxLen]) rfl) hkept1 (by simp)); have ho1 := Bs.ofOwns hown1; have hl1 := hown1.lt; clear hown1 hkept1 hmoved1; rw [List.nil_append] at ho1)
    | (go_at_call 9; refine (newReader_any _ L _ ho1 (by omega)).mono ?_; rintro e w2 ⟨rb, hrb, rfl, hr2, hb2⟩))
  have z1 := hb1.size
  have z2 := hb2.size
  have hB0 : Both w (w2.alloc (Obj.cells #[.slice ao L.length cap, .int .i64 0, .int .i64 0] 65)) rb w1.heap.size w2.heap.size ao cap v1 L 0 0 := by
    have hB2 : Below w.heap.size w w2 := hb1.trans (hb2.mono z1)
    refine ⟨hr2.below ((Below.refl _ _).alloc (Nat.le_refl _) _), ⟨heap_alloc_new w2 _, (hv0.below hB2).below ((Below.refl _ _).alloc (Nat.le_refl _) _), fun k hne hk => by have := hoa k hne hk; omega, Nat.zero_le _, hl⟩, (ho1.below hb2).below ((Below.refl _ _).alloc (Nat.le_refl _) _), hB2.alloc (by omega) _, z1, hr2.size, hoa, fun k _ hk => (hl1 k hk).2⟩
  clear hr2 hb1 hb2 ho1 hl1 hi hz0 hz1 hz2 hu hv0 hoa hc
  generalize w2.heap.size = fb at *
  generalize w2.alloc (Obj.cells #[.slice ao L.length cap, .int .i64 0, .int .i64 0] 65) = W0 at *
  obtain ⟨vo, vn, vc, hve⟩ : ∃ vo vn vc, v1 = .slice vo vn vc := by obtain ⟨_, _, e, _⟩ := hB0.own; exact ⟨_, _, _, e⟩
  subst hve
  go_loopw [8] (fun i wr => ∃ k p e : Nat, k ≤ ds.length ∧ i = .int .i64 k ∧ Both w wr rb w1.heap.size fb ao cap (.slice vo vn vc) L p e) (fun i _ => ds.length - (intOf i).toNat)
  case atStart => exact ⟨0, 0, 0, Nat.zero_le _, rfl, hB0⟩
  case round =>
    obtain ⟨k, p, e, hk, rfl, hB⟩ := hrel
    have hBd : Both w wr.drew rb w1.heap.size fb ao cap (.slice vo vn vc) L p e := hB.below ((Below.refl _ _).drew)
    have zr := hB.bel.size
    have zg := hB.g0
    have zf := hB.fb1
    have zl := hB.rd.lt
    have zd : wr.drew.heap.size = wr.heap.size := rfl
    have zs := hB.rf.size
    by_cases hlt : k < ds.length
    · obtain ⟨blk, off, rfl, hblk, hat⟩ := hx (by intro e; subst e; simp at hlt)
      have ha := (hat k hlt).below hB.bel hblk
      have a0 := ha.c0
      have a1 : wr.drew.cell? ⟨blk, off + k * 4 + 1, none⟩ = some (.int .u8 (ds[k].b : Int)) := ha.c1
      have a2 : wr.drew.cell? ⟨blk, off + k * 4 + 2, none⟩ = some (.int .u64 (ds[k].n : Int)) := ha.c2
      have a3 : wr.drew.cell? ⟨blk, off + k * 4 + 3, none⟩ = some (.int .i64 ds[k].t) := ha.c3
      have a3' := ha.c3
      have htm := ha.t
      clear hat hx hB0 ha
      generalize ds[k] = d at *
      rcases pick4 d.what with h0 | h0 | h0 | h0
      · have HP := hidden h0
        clear h0
        go_wp2_with (go_at_call 19; refine (pick_any d.what 4 (by omega) (by omega) _).mono ?_; rintro r w' ⟨rfl, rfl⟩; rw [HP.out])
        go_region_held (fun W => W.cell? ⟨blk, off + k * 4 + 1, none⟩ = some (.int .u8 (d.b : Int))) (assumption) (first
          | (go_at_call 10; refine (rbyte_any _ rb _ L p e d.b hBd.rd).mono ?_; rintro r w4 ⟨rfl, hto⟩; have r4 := hBd.rstep hto; have hc4 : w4.cell? ⟨blk, off + k * 4 + 1, none⟩ = some (.int .u8 (d.b : Int)) := (hto.rcell (by omega) (by omega)).trans a1; have z4 := hto.kept.size)
          | (go_at_call 33; refine (fbyte_any _ fb cap ao L p e d.b r4.1).mono ?_; rintro r w5 ⟨rfl, hfo⟩; have hc5 : w5.cell? ⟨blk, off + k * 4 + 1, none⟩ = some (.int .u8 (d.b : Int)) := (hfo.cell (by omega) (by omega)).trans hc4))
        go_wp2
        go_roundw
        case rel => exact ⟨k + 1, _, _, by omega, by go_num, hBd.step hto hfo⟩
        case measure => simp [intOf]; omega
      · have HP := hidden h0
        clear h0
        go_wp2_with (go_at_call 19; refine (pick_any d.what 4 (by omega) (by omega) _).mono ?_; rintro r w' ⟨rfl, rfl⟩; rw [HP.out])
        go_region_held (fun W => W.cell? ⟨blk, off + k * 4 + 2, none⟩ = some (.int .u64 (d.n : Int))) (assumption) (first
          | (go_at_call 11; refine (rnum_any _ rb _ L p e d.n hBd.rd).mono ?_; rintro r w4 ⟨rfl, hto⟩; have r4 := hBd.rstep hto; have hc4 : w4.cell? ⟨blk, off + k * 4 + 2, none⟩ = some (.int .u64 (d.n : Int)) := (hto.rcell (by omega) (by omega)).trans a2; have z4 := hto.kept.size)
          | (go_at_call 34; refine (fnum_any _ fb cap ao L p e d.n r4.1).mono ?_; rintro r w5 ⟨rfl, hfo⟩; have hc5 : w5.cell? ⟨blk, off + k * 4 + 2, none⟩ = some (.int .u64 (d.n : Int)) := (hfo.cell (by omega) (by omega)).trans hc4))
        go_wp2
        go_roundw
        case rel => exact ⟨k + 1, _, _, by omega, by go_num, hBd.step hto hfo⟩
        case measure => simp [intOf]; omega
      · have HP := hidden h0
        clear h0 a1 a2
        go_wp2_with (first
          | (go_at_call 19; refine (pick_any d.what 4 (by omega) (by omega) _).mono ?_; rintro r w' ⟨rfl, rfl⟩; rw [HP.out])
          | (go_at_call 12; refine (rtext_any _ rb _ L p e d.t hB.rd htm).mono ?_; rintro r w4 ⟨v4, rfl, hn4, hto⟩))
        have r4 := hB.rstep hto
        have z4 := hto.kept.size
        obtain ⟨xo, n4, rfl, hn4l, hfr⟩ := hn4.fresh (fb := fb) zs
        have hc4 : w4.drew.cell? ⟨blk, off + k * 4 + 3, none⟩ = some (.int .i64 d.t) := (hto.rcell (by omega) (by omega)).trans a3'
        have hs4 := (hn4.bs.below ((Below.refl _ _).drew)).str (P := Try.prog) 24 9 5 Try.underlying24 Try.underlying5 Try.underlying9
        have hrf := r4.1.below ((Below.refl _ _).drew)
        have hn4b : n4 ≤ 140737488355328 := by rw [hn4l]; exact Nat.le_trans (rText_len L p e _) hl
        have hxa : ∀ j, (rText L p e d.t.toNat).1 ≠ [] → (Value.slice xo n4 n4).ownBlock = some j → j < w4.drew.heap.size → ¬ (j = fb) := by
          intro j hne hj _ e
          rcases hfr with h | ⟨q, cs, rfl, hq, _⟩
          · rw [hn4l] at h
            exact hne (List.eq_nil_of_length_eq_zero h)
          · simp only [Value.ownBlock, Option.some.injEq] at hj
            omega
        have HX := hidden (hn4.bs.below ((Below.refl _ _).drew))
        have HXA := hidden hxa
        clear hxa hn4 hn4l a3 a3'
        go_region_held (fun W => W.cell? ⟨blk, off + k * 4 + 3, none⟩ = some (.int .i64 d.t) ∧ (convert 24 9 (.slice xo n4 n4)).run Try.prog W = .ok (.string ⟨(rText L p e d.t.toNat).1.toArray⟩) W) (exact ⟨by assumption, by assumption⟩) (first
          | (go_at_call 35; refine (ftext_any _ fb cap ao L p e d.t hrf htm).mono ?_; rintro r w5 ⟨v5, rfl, hb5, hfo⟩; have hc5 : w5.cell? ⟨blk, off + k * 4 + 3, none⟩ = some (.int .i64 d.t) := (hfo.cell (by omega) (by simp; omega)).trans hc4; have hs5 := (HX.out.kept hfo.kept HXA.out).str (P := Try.prog) 24 9 5 Try.underlying24 Try.underlying5 Try.underlying9; have hs6 := hb5.str (P := Try.prog) 24 9 5 Try.underlying24 Try.underlying5 Try.underlying9))
        have hfo' := (FTo.ofBelow r4.1 ((Below.refl _ _).drew)).trans hfo
        have hB5 := hB.step hto hfo'
        have hF5 := hfr.keep hfo'.kept (fun j hj e => by omega)
        clear hs5 hs6 hb5 hc5 hs4 hc4 HX HXA hfo' hfo hto hfr hrf r4 hBd hB a0
        generalize (rText L p e d.t.toNat).2.1 = p5 at *
        generalize (rText L p e d.t.toNat).2.2 = e5 at *
        go_wp2
        go_loopw [11] (fun q wx => ∃ j : Nat, j ≤ n4 ∧ q = .int .i64 j ∧ Both w wx rb w1.heap.size fb ao cap (.slice vo vn vc) L p5 e5 ∧ Fresh wx fb xo n4) (fun q _ => n4 - (intOf q).toNat)
        case atStart => exact ⟨0, Nat.zero_le _, rfl, hB5, hF5⟩
        case round =>
          obtain ⟨j, hj, rfl, hBx, hFx⟩ := hrel
          by_cases hjt : j < n4
          · rcases hFx with h | ⟨q, cs, hq, hfq, hg, hcs⟩
            · omega
            · subst hq
              have hcj : wr.cell? ⟨q, j, none⟩ = some (cs[j]'(by omega)) := by rw [cell_of_row wr q j _ _ _ hg]; exact Array.getElem?_eq_getElem (by omega)
              have hfj := frozen_of_row wr q j _ _ hg
              generalize cs[j] = cj at hcj
              go_wp2
              go_roundw
              case rel =>
                refine ⟨j + 1, by omega, by go_num, hBx.keep (Kept.setCell wr _ _) (fun x e => by simp only at e; omega), Or.inr ⟨q, _, rfl, hfq, heap_setCell_same wr q j _ _ _ hg, by simpa using hcs⟩⟩
              case measure => simp [intOf]; omega
          · go_wp2
            go_roundw
            case rel => exact ⟨k + 1, _, _, by omega, by go_num, hBx⟩
            case measure => simp [intOf]; omega
      · have HP := hidden h0
        clear h0 a1 a2 a3 a3'
        go_wp2_with (first
          | (go_at_call 19; refine (pick_any d.what 4 (by omega) (by omega) _).mono ?_; rintro r w' ⟨rfl, rfl⟩; rw [HP.out])
          | (go_at_call 13; refine (rend_any _ rb _ L p e hB.rd).mono ?_; rintro r w4 ⟨rfl, hto⟩; have r4 := hB.rstep hto)
          | (go_at_call 36; refine (fend_any _ fb cap ao L p e r4.1).mono ?_; rintro r w5 ⟨rfl, hfo⟩))
        go_roundw
        case rel => exact ⟨k + 1, _, _, by omega, by go_num, hB.step hto hfo⟩
        case measure => simp [intOf]; omega
    · clear hx hB0
      go_wp2_with (first
        | (go_at_call 13; refine (rend_any _ rb _ L p e hB.rd).mono ?_; rintro r w4 ⟨rfl, hto⟩; have r4 := hB.rstep hto)
        | (go_at_call 36; refine (fend_any _ fb cap ao L p e r4.1).mono ?_; rintro r w5 ⟨rfl, hfo⟩; have hE := hB.step hto hfo; have s1 := hE.own.str (P := Try.prog) 24 9 5 Try.underlying24 Try.underlying5 Try.underlying9; have s2 := hE.rf.bs.str (P := Try.prog) 24 9 5 Try.underlying24 Try.underlying5 Try.underlying9))
      go_ret
      exact ⟨rfl, hE.bel⟩

end Go.Proofs.Ytmnajmlfioiboaa
