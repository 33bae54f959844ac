/- Keys in order: places, entries put, dropped and met. No program's text is in it. -/
import Derived.Test.YtofpkmionbbmcaaTbL
namespace Go.Proofs.Ytofpkmionbbmcaa

/-- An order of keys. -/
structure KO {α : Type} (lt : α → α → Bool) : Prop where
  irr : ∀ a, lt a a = false
  tr : ∀ a b c, lt a b = true → lt b c = true → lt a c = true
  tri : ∀ a b, lt a b = false → lt b a = false → a = b

/-- Rising, each once. -/
def Srt {α : Type} (lt : α → α → Bool) (ks : List α) : Prop := ks.Pairwise (fun a b => lt a b = true)

/-- Where k stands, or would. -/
def posK {α : Type} (lt : α → α → Bool) (k : α) : List α → Nat
  | [] => 0
  | a :: r => if lt a k then posK lt k r + 1 else 0

section
variable {α β : Type} {lt : α → α → Bool}

theorem posK_le (k : α) (ks : List α) : posK lt k ks ≤ ks.length := by
  induction ks with
  | nil => simp [posK]
  | cons a r ih => unfold posK; split <;> simp <;> omega
theorem posK_below (k : α) (ks : List α) : ∀ t (h : t < ks.length), t < posK lt k ks → lt ks[t] k = true := by
  induction ks with
  | nil => intro t h; simp at h
  | cons a r ih =>
    intro t h ht
    unfold posK at ht
    split at ht
    · rename_i ha
      cases t with
      | zero => exact ha
      | succ t => exact ih t (by simpa using h) (by omega)
    · omega
theorem posK_above (ko : KO lt) (k : α) (ks : List α) (hs : Srt lt ks) : ∀ t (h : t < ks.length), posK lt k ks ≤ t → lt ks[t] k = false := by
  induction ks with
  | nil => intro t h; simp at h
  | cons a r ih =>
    intro t h ht
    have hs' := List.pairwise_cons.1 hs
    unfold posK at ht
    split at ht
    · cases t with
      | zero => omega
      | succ t => exact ih hs'.2 t (by simpa using h) (by omega)
    · rename_i ha
      have ha' : lt a k = false := by simpa using ha
      cases t with
      | zero => exact ha'
      | succ t =>
        have hat := hs'.1 (r[t]'(by simpa using h)) (List.getElem_mem _)
        cases hq : lt ((a :: r)[t + 1]) k with
        | false => rfl
        | true =>
          have := ko.tr a _ k hat (by simpa using hq)
          rw [ha'] at this
          cases this
/-- Only one place parts them so. -/
theorem posK_eq (k : α) (ks : List α) (p : Nat) (hp : p ≤ ks.length) (h1 : ∀ t (h : t < ks.length), t < p → lt ks[t] k = true) (h2 : ∀ (h : p < ks.length), lt ks[p] k = false) : posK lt k ks = p := by
  induction ks generalizing p with
  | nil => simp at hp; simp [posK, hp]
  | cons a r ih =>
    unfold posK
    cases p with
    | zero =>
      have : lt a k = false := h2 (by simp)
      simp [this]
    | succ p =>
      have : lt a k = true := h1 0 (by simp) (by omega)
      rw [if_pos this, ih p (by simpa using hp) (fun t h ht => h1 (t + 1) (by simpa using h) (by omega)) (fun h => h2 (by simpa using h))]

variable [DecidableEq α]
/-- Is k there? -/
def hasK (lt : α → α → Bool) (k : α) (ks : List α) : Bool := decide (ks[posK lt k ks]? = some k)

theorem hasK_at {k : α} {ks : List α} (h : hasK lt k ks = true) : ∃ hp : posK lt k ks < ks.length, ks[posK lt k ks] = k := by
  have := of_decide_eq_true h
  exact List.getElem?_eq_some_iff.1 this
theorem hasK_iff (ko : KO lt) (k : α) (ks : List α) (hs : Srt lt ks) : hasK lt k ks = true ↔ k ∈ ks := by
  constructor
  · intro h
    obtain ⟨hp, he⟩ := hasK_at h
    rw [← he]
    exact List.getElem_mem _
  · intro h
    obtain ⟨t, ht, he⟩ := List.mem_iff_getElem.1 h
    have hp : posK lt k ks = t := posK_eq k ks t (Nat.le_of_lt ht) (fun s hsl hst => by
      have := List.pairwise_iff_getElem.1 hs s t hsl ht hst
      rw [he] at this
      exact this) (fun _ => by rw [he]; exact ko.irr k)
    unfold hasK
    rw [hp, List.getElem?_eq_getElem ht, he]
    simp

/-- Entries. -/
def keysE (es : List (α × β)) : List α := es.map Prod.fst
def pE (lt : α → α → Bool) (es : List (α × β)) (k : α) : Nat := posK lt k (keysE es)
def hasE (lt : α → α → Bool) (es : List (α × β)) (k : α) : Bool := hasK lt k (keysE es)
/-- (k, v) at place p. -/
def insE (es : List (α × β)) (p : Nat) (k : α) (v : β) : List (α × β) := es.take p ++ ([(k, v)] ++ es.drop p)
def putB (lt : α → α → Bool) (most : Nat) (es : List (α × β)) (k : α) : Bool := hasE lt es k || decide (es.length < most)
def putE (lt : α → α → Bool) (most : Nat) (es : List (α × β)) (k : α) (v : β) : List (α × β) :=
  if hasE lt es k = true then es.set (pE lt es k) (k, v) else if es.length < most then insE es (pE lt es k) k v else es
def getE (lt : α → α → Bool) (es : List (α × β)) (k : α) : Option β := if hasE lt es k = true then (es[pE lt es k]?).map Prod.snd else none
def dropE (lt : α → α → Bool) (es : List (α × β)) (k : α) : List (α × β) := if hasE lt es k = true then es.eraseIdx (pE lt es k) else es
def firstE (es : List (α × β)) : Option α := (keysE es)[0]?
def nextE (lt : α → α → Bool) (es : List (α × β)) (k : α) : Option α := (keysE es)[pE lt es k + (if hasE lt es k = true then 1 else 0)]?
def afterE (lt : α → α → Bool) (es : List (α × β)) (k : α) : Option α := match nextE lt es k with | some n => some n | none => firstE es

omit [DecidableEq α] in
theorem keysE_len (es : List (α × β)) : (keysE es).length = es.length := by simp [keysE]
omit [DecidableEq α] in
theorem pE_le (es : List (α × β)) (k : α) : pE lt es k ≤ es.length := by have := posK_le (lt := lt) k (keysE es); rw [keysE_len] at this; exact this
theorem hasE_at {es : List (α × β)} {k : α} (h : hasE lt es k = true) : ∃ hp : pE lt es k < es.length, es[pE lt es k].1 = k := by
  obtain ⟨hp, he⟩ := hasK_at h
  have hp' : pE lt es k < es.length := by rw [← keysE_len es]; exact hp
  exact ⟨hp', by simpa [keysE, pE] using he⟩
theorem hasE_iff (ko : KO lt) (es : List (α × β)) (k : α) (hs : Srt lt (keysE es)) : hasE lt es k = true ↔ k ∈ keysE es := hasK_iff ko k _ hs

theorem keys_set {es : List (α × β)} {k : α} (v : β) (h : hasE lt es k = true) : keysE (es.set (pE lt es k) (k, v)) = keysE es := by
  obtain ⟨hp, he⟩ := hasE_at h
  unfold keysE
  rw [List.map_set]
  apply List.ext_getElem
  · simp
  · intro t h1 h2
    rw [List.getElem_set]
    split
    · rename_i e
      subst e
      simpa using he.symm
    · rfl
omit [DecidableEq α] in
theorem keys_ins (es : List (α × β)) (p : Nat) (k : α) (v : β) : keysE (insE es p k v) = (keysE es).take p ++ (k :: (keysE es).drop p) := by simp [keysE, insE, List.map_take, List.map_drop]

theorem srt_ins (ko : KO lt) (k : α) (ks : List α) (hs : Srt lt ks) (h : hasK lt k ks = false) : Srt lt (ks.take (posK lt k ks) ++ (k :: ks.drop (posK lt k ks))) := by
  have hab : ∀ a ∈ ks.take (posK lt k ks), lt a k = true := by
    intro a ha
    obtain ⟨t, ht, rfl⟩ := List.mem_iff_getElem.1 ha
    simp at ht
    rw [List.getElem_take]
    exact posK_below k ks t (by omega) (by omega)
  have hbe : ∀ b ∈ ks.drop (posK lt k ks), lt k b = true := by
    intro b hb
    obtain ⟨t, ht, rfl⟩ := List.mem_iff_getElem.1 hb
    simp at ht
    rw [List.getElem_drop]
    have h1 := posK_above ko k ks hs (posK lt k ks + t) (by omega) (by omega)
    cases hq : lt k ks[posK lt k ks + t] with
    | true => rfl
    | false =>
      exfalso
      have e := ko.tri _ _ h1 hq
      have hm : k ∈ ks := by rw [← e]; exact List.getElem_mem _
      rw [(hasK_iff ko k ks hs).2 hm] at h
      cases h
  have hs2 : Srt lt (ks.take (posK lt k ks) ++ ks.drop (posK lt k ks)) := by rw [List.take_append_drop]; exact hs
  obtain ⟨q1, q2, q3⟩ := List.pairwise_append.1 hs2
  refine List.pairwise_append.2 ⟨q1, List.pairwise_cons.2 ⟨hbe, q2⟩, fun a ha b hb => ?_⟩
  rcases List.mem_cons.1 hb with rfl | hb
  · exact hab a ha
  · exact q3 a ha b hb

theorem srt_put (ko : KO lt) (most : Nat) (es : List (α × β)) (k : α) (v : β) (hs : Srt lt (keysE es)) : Srt lt (keysE (putE lt most es k v)) := by
  unfold putE
  split
  · rename_i h
    rw [keys_set v h]
    exact hs
  · rename_i h
    split
    · rw [keys_ins]
      exact srt_ins ko k _ hs (Bool.eq_false_iff.2 h)
    · exact hs
omit [DecidableEq α] in
theorem keys_erase (es : List (α × β)) (p : Nat) : keysE (es.eraseIdx p) = (keysE es).eraseIdx p := by
  unfold keysE
  rw [List.eraseIdx_eq_take_drop_succ, List.eraseIdx_eq_take_drop_succ, List.map_append, List.map_take, List.map_drop]
theorem srt_drop (es : List (α × β)) (k : α) (hs : Srt lt (keysE es)) : Srt lt (keysE (dropE lt es k)) := by
  unfold dropE
  split
  · rw [keys_erase]
    exact hs.sublist (List.eraseIdx_sublist _ _)
  · exact hs

theorem len_put (most : Nat) (es : List (α × β)) (k : α) (v : β) : (putE lt most es k v).length = if hasE lt es k = true then es.length else if es.length < most then es.length + 1 else es.length := by
  unfold putE
  split
  · simp
  · split
    · have := pE_le (lt := lt) es k
      simp [insE]; omega
    · rfl
theorem len_drop (es : List (α × β)) (k : α) : (dropE lt es k).length = if hasE lt es k = true then es.length - 1 else es.length := by
  unfold dropE
  split
  · rename_i h
    obtain ⟨hp, _⟩ := hasE_at h
    rw [List.length_eraseIdx, if_pos hp]
  · rfl
theorem mem_put (most : Nat) (es : List (α × β)) (k : α) (v : β) (x : α) : x ∈ keysE (putE lt most es k v) ↔ x ∈ keysE es ∨ (x = k ∧ putB lt most es k = true) := by
  unfold putE putB
  split
  · rename_i h
    rw [keys_set v h]
    constructor
    · exact Or.inl
    · rintro (h1 | ⟨rfl, _⟩)
      · exact h1
      · obtain ⟨hp, he⟩ := hasK_at h
        rw [← he]
        exact List.getElem_mem _
  · rename_i h
    have hf : hasE lt es k = false := by simpa using h
    split
    · rename_i hl
      rw [keys_ins, hf]
      simp only [List.mem_append, List.mem_cons, Bool.false_or, decide_eq_true_eq]
      have e : x ∈ keysE es ↔ x ∈ (keysE es).take (pE lt es k) ∨ x ∈ (keysE es).drop (pE lt es k) := by
        rw [← List.mem_append, List.take_append_drop]
      rw [e]
      constructor
      · rintro (h1 | h1 | h1)
        · exact Or.inl (Or.inl h1)
        · exact Or.inr ⟨h1, hl⟩
        · exact Or.inl (Or.inr h1)
      · rintro ((h1 | h1) | ⟨h1, _⟩)
        · exact Or.inl h1
        · exact Or.inr (Or.inr h1)
        · exact Or.inr (Or.inl h1)
    · rename_i hl
      simp [hf, hl]
theorem mem_drop (ko : KO lt) (es : List (α × β)) (k x : α) (hs : Srt lt (keysE es)) : x ∈ keysE (dropE lt es k) ↔ x ∈ keysE es ∧ x ≠ k := by
  have nod : ∀ {l : List α}, Srt lt l → l.Nodup := fun {l} h => List.Pairwise.imp (fun {a b} hab e => by subst e; rw [ko.irr] at hab; cases hab) h
  unfold dropE
  split
  · rename_i h
    obtain ⟨hp, he⟩ := hasK_at h
    rw [keys_erase, List.mem_eraseIdx_iff_getElem]
    constructor
    · rintro ⟨i, hi, hne, rfl⟩
      refine ⟨List.getElem_mem _, fun e => hne ?_⟩
      have := (List.getElem_inj (h₀ := hi) (h₁ := hp) (nod hs)).1 (e.trans he.symm)
      exact this
    · rintro ⟨hm, hne⟩
      obtain ⟨i, hi, rfl⟩ := List.mem_iff_getElem.1 hm
      exact ⟨i, hi, fun e => hne (by subst e; exact he), rfl⟩
  · rename_i h
    constructor
    · intro hm
      exact ⟨hm, fun e => h (by subst e; exact (hasE_iff ko es _ hs).2 hm)⟩
    · exact And.left
end

end Go.Proofs.Ytofpkmionbbmcaa
