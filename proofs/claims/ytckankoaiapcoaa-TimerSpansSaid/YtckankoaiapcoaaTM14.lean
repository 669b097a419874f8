/- Matches, polls and tracks over plain lists. -/

namespace Go.Proofs.Ytckankoaiapcoaa.M

/-- Of several matches of one server the greatest counts; none is one of 0. -/
def hasStep (id : Int) (n : Int) (m : Int × Int) : Int := if m.1 = id ∧ n < m.2 then m.2 else n

def hasM (ms : List (Int × Int)) (id : Int) : Int := ms.foldl (hasStep id) 0

theorem hasM_snoc (ms : List (Int × Int)) (m : Int × Int) (id : Int) : hasM (ms ++ [m]) id = hasStep id (hasM ms id) m := by
  unfold hasM
  rw [List.foldl_append]; rfl

theorem hasM_take {ms : List (Int × Int)} {k : Nat} (hk : k < ms.length) (id : Int) : hasM (ms.take (k + 1)) id = hasStep id (hasM (ms.take k) id) ms[k] := by
  rw [List.take_add_one, List.getElem?_eq_getElem hk]
  exact hasM_snoc _ _ _

theorem hasStep_ge (id n : Int) (m : Int × Int) : n ≤ hasStep id n m := by
  unfold hasStep
  split <;> omega

theorem foldl_ge (id : Int) : ∀ (ms : List (Int × Int)) (n : Int), n ≤ ms.foldl (hasStep id) n
  | [], n => Int.le_refl n
  | m :: r, n => Int.le_trans (hasStep_ge id n m) (foldl_ge id r _)

theorem hasM_nn (ms : List (Int × Int)) (id : Int) : 0 ≤ hasM ms id := foldl_ge id ms 0

theorem foldl_mem (id : Int) : ∀ (ms : List (Int × Int)) (n : Int) (x : Int), (id, x) ∈ ms → x ≤ ms.foldl (hasStep id) n
  | m :: r, n, x, h => by
    rcases List.mem_cons.1 h with rfl | h
    · refine Int.le_trans ?_ (foldl_ge id r _)
      unfold hasStep
      split <;> simp_all
    · exact foldl_mem id r _ x h

theorem hasM_ge {ms : List (Int × Int)} {id x : Int} (h : (id, x) ∈ ms) : x ≤ hasM ms id := foldl_mem id ms 0 x h

theorem foldl_in (id : Int) : ∀ (ms : List (Int × Int)) (n : Int), ms.foldl (hasStep id) n = n ∨ (id, ms.foldl (hasStep id) n) ∈ ms
  | [], n => .inl rfl
  | m :: r, n => by
    rcases foldl_in id r (hasStep id n m) with h | h
    · show List.foldl (hasStep id) (hasStep id n m) r = n ∨ _
      by_cases hc : m.1 = id ∧ n < m.2
      · right
        have e : hasStep id n m = m.2 := by unfold hasStep; rw [if_pos hc]
        rw [List.foldl_cons, h, e, ← hc.1]
        exact List.mem_cons_self
      · left
        rw [h]
        unfold hasStep
        rw [if_neg hc]
    · exact .inr (List.mem_cons_of_mem _ h)

theorem hasM_in (ms : List (Int × Int)) (id : Int) : hasM ms id = 0 ∨ (id, hasM ms id) ∈ ms := foldl_in id ms 0

theorem hasM_mono {a b : List (Int × Int)} {id : Int} (h : ∀ x, (id, x) ∈ a → (id, x) ∈ b) : hasM a id ≤ hasM b id := by
  rcases hasM_in a id with h1 | h1
  · rw [h1]; exact hasM_nn b id
  · exact hasM_ge (h _ h1)

theorem hasM_congr {a b : List (Int × Int)} {id : Int} (h : ∀ x, (id, x) ∈ a ↔ (id, x) ∈ b) : hasM a id = hasM b id :=
  Int.le_antisymm (hasM_mono fun x => (h x).1) (hasM_mono fun x => (h x).2)

theorem hasM_le {ms : List (Int × Int)} {B : Int} (h0 : 0 ≤ B) (h : ∀ m ∈ ms, m.2 ≤ B) (id : Int) : hasM ms id ≤ B := by
  rcases hasM_in ms id with h1 | h1
  · rw [h1]; exact h0
  · exact h _ h1

/-- How many have an index. -/
def cntGe (L : List Int) (x : Int) : Nat := L.countP fun y => decide (x ≤ y)

/-- A majority has it. -/
def enough (L : List Int) (x : Int) : Prop := L.length < 2 * cntGe L x

instance (L : List Int) (x : Int) : Decidable (enough L x) := inferInstanceAs (Decidable (L.length < 2 * cntGe L x))

theorem sorted_at {s : List Int} (h : s.Pairwise (· ≤ ·)) {i j : Nat} (hj : j < s.length) (hij : i ≤ j) : s[i] ≤ s[j] := by
  rcases Nat.lt_or_ge i j with h1 | h1
  · exact List.pairwise_iff_getElem.1 h i j (by omega) hj h1
  · obtain rfl : i = j := by omega
    exact Int.le_refl _

theorem cnt_at_least {s : List Int} (h : s.Pairwise (· ≤ ·)) {i : Nat} (hi : i < s.length) {x : Int} (hx : x ≤ s[i]) : s.length - i ≤ cntGe s x := by
  have e : cntGe s x = cntGe (s.take i) x + cntGe (s.drop i) x := by
    unfold cntGe
    rw [← List.countP_append, List.take_append_drop]
  have e2 : cntGe (s.drop i) x = (s.drop i).length := by
    refine List.countP_eq_length.2 fun y hy => ?_
    obtain ⟨j, hj, rfl⟩ := List.mem_iff_getElem.1 hy
    have hj2 : i + j < s.length := by simp at hj; omega
    have := sorted_at h hj2 (Nat.le_add_right i j)
    simp only [List.getElem_drop, decide_eq_true_eq]
    omega
  rw [e, e2, List.length_drop]
  omega

theorem cnt_at_most {s : List Int} (h : s.Pairwise (· ≤ ·)) {i : Nat} (hi : i < s.length) {x : Int} (hx : s[i] < x) : cntGe s x ≤ s.length - i - 1 := by
  have e : cntGe s x = cntGe (s.take (i + 1)) x + cntGe (s.drop (i + 1)) x := by
    unfold cntGe
    rw [← List.countP_append, List.take_append_drop]
  have e2 : cntGe (s.take (i + 1)) x = 0 := by
    refine List.countP_eq_zero.2 fun y hy => ?_
    obtain ⟨j, hj, rfl⟩ := List.mem_iff_getElem.1 hy
    have hj2 : j ≤ i := by simp at hj; omega
    have := sorted_at h hi hj2
    simp only [List.getElem_take, decide_eq_true_eq]
    omega
  have e3 : cntGe (s.drop (i + 1)) x ≤ (s.drop (i + 1)).length := List.countP_le_length
  rw [List.length_drop] at e3
  omega

theorem cnt_perm {a b : List Int} (h : a.Perm b) (x : Int) : cntGe a x = cntGe b x := h.countP_eq _

def sortN (l : List Int) : List Int := l.mergeSort fun x y => decide (x ≤ y)

theorem sortN_perm (l : List Int) : (sortN l).Perm l := List.mergeSort_perm _ _

theorem sortN_len (l : List Int) : (sortN l).length = l.length := (sortN_perm l).length_eq

theorem sortN_mem {l : List Int} {x : Int} : x ∈ sortN l ↔ x ∈ l := (sortN_perm l).mem_iff

theorem sortN_le (l : List Int) : (sortN l).Pairwise (· ≤ ·) := by
  have h := List.pairwise_mergeSort (le := fun x y : Int => decide (x ≤ y)) (fun a b c h1 h2 => by simp at h1 h2 ⊢; omega) (fun a b => by simp; omega) l
  exact h.imp fun h => by simpa using h

/-- The greatest index that a majority has. -/
def com (L : List Int) : Int := (sortN L).getD (L.length - (L.length / 2 + 1)) 0

theorem com_nil : com [] = 0 := by simp [com, sortN]

theorem com_at {L : List Int} (hL : L ≠ []) : ∃ h : L.length - (L.length / 2 + 1) < (sortN L).length, com L = (sortN L)[L.length - (L.length / 2 + 1)] := by
  have h0 : 0 < L.length := List.length_pos_iff.2 hL
  have h : L.length - (L.length / 2 + 1) < (sortN L).length := by rw [sortN_len]; omega
  exact ⟨h, by unfold com; rw [List.getD_eq_getElem?_getD, List.getElem?_eq_getElem h]; rfl⟩

theorem com_mem {L : List Int} (hL : L ≠ []) : com L ∈ L := by
  obtain ⟨h, e⟩ := com_at hL
  rw [e]
  exact sortN_mem.1 (List.getElem_mem h)

theorem enough_iff {L : List Int} (hL : L ≠ []) {x : Int} : enough L x ↔ x ≤ com L := by
  obtain ⟨h, e⟩ := com_at hL
  have h0 : 0 < L.length := List.length_pos_iff.2 hL
  unfold enough
  rw [e, ← cnt_perm (sortN_perm L) x]
  constructor
  · intro h1
    refine Int.not_lt.1 fun hlt => ?_
    have := cnt_at_most (sortN_le L) h hlt
    rw [sortN_len] at this
    omega
  · intro h1
    have := cnt_at_least (sortN_le L) h h1
    rw [sortN_len] at this
    omega

theorem cnt_mono {V : List Int} {f g : Int → Int} (h : ∀ v ∈ V, f v ≤ g v) (x : Int) : cntGe (V.map f) x ≤ cntGe (V.map g) x := by
  unfold cntGe
  rw [List.countP_map, List.countP_map]
  exact List.countP_mono_left fun v hv hd => by
    have := h v hv
    simp only [Function.comp, decide_eq_true_eq] at hd ⊢
    omega

theorem com_mono {V : List Int} {f g : Int → Int} (h : ∀ v ∈ V, f v ≤ g v) : com (V.map f) ≤ com (V.map g) := by
  by_cases hV : V = []
  · subst hV; simp
  · have h1 : V.map f ≠ [] := by simpa using hV
    have h2 : V.map g ≠ [] := by simpa using hV
    have h3 := (enough_iff h1).2 (Int.le_refl _)
    refine (enough_iff h2).1 ?_
    unfold enough at h3 ⊢
    have := cnt_mono h (com (V.map f))
    simp only [List.length_map] at h3 ⊢
    omega

/-- The document's way: the best so far of the first k. -/
structure BestAt (L : List Int) (k : Nat) (b : Int) : Prop where
  nn : 0 ≤ b
  src : b = 0 ∨ (b ∈ L ∧ enough L b)
  top : ∀ x ∈ L.take k, enough L x → x ≤ b

theorem BestAt.start (L : List Int) : BestAt L 0 0 := ⟨Int.le_refl _, .inl rfl, fun x hx => by simp at hx⟩

theorem take_snocI {l : List Int} {i : Nat} (hi : i < l.length) : l.take (i + 1) = l.take i ++ [l[i]] := by
  rw [List.take_add_one, List.getElem?_eq_getElem hi]; rfl

theorem BestAt.up {L : List Int} {k : Nat} {b : Int} (h : BestAt L k b) (hk : k < L.length) (h1 : b < L[k]) (h2 : enough L L[k]) : BestAt L (k + 1) L[k] := by
  refine ⟨by have := h.nn; omega, .inr ⟨List.getElem_mem hk, h2⟩, fun x hx he => ?_⟩
  rw [take_snocI hk] at hx
  rcases List.mem_append.1 hx with hx | hx
  · have := h.top x hx he; omega
  · rw [List.mem_singleton.1 hx]; exact Int.le_refl _

theorem BestAt.stay {L : List Int} {k : Nat} {b : Int} (h : BestAt L k b) (hk : k < L.length) (h1 : ¬ (b < L[k] ∧ enough L L[k])) : BestAt L (k + 1) b := by
  refine ⟨h.nn, h.src, fun x hx he => ?_⟩
  rw [take_snocI hk] at hx
  rcases List.mem_append.1 hx with hx | hx
  · exact h.top x hx he
  · rw [List.mem_singleton.1 hx] at he ⊢
    refine Int.not_lt.1 fun hl => h1 ⟨hl, he⟩

theorem BestAt.done {L : List Int} {b : Int} (h : BestAt L L.length b) (h0 : ∀ x ∈ L, 0 ≤ x) : b = com L := by
  by_cases hL : L = []
  · subst hL
    rw [com_nil]
    rcases h.src with h1 | ⟨h1, -⟩
    · exact h1
    · simp at h1
  · refine Int.le_antisymm ?_ (h.top _ (by rw [List.take_length]; exact com_mem hL) ((enough_iff hL).2 (Int.le_refl _)))
    rcases h.src with h1 | ⟨-, h1⟩
    · rw [h1]; exact h0 _ (com_mem hL)
    · exact (enough_iff hL).1 h1

/-- What Commit answers. -/
def comOf (V : List Int) (ms : List (Int × Int)) : Int := com (V.map (hasM ms))

theorem comOf_congr {V : List Int} {a b : List (Int × Int)} (h : ∀ v ∈ V, ∀ x, (v, x) ∈ a ↔ (v, x) ∈ b) : comOf V a = comOf V b := by
  unfold comOf
  rw [List.map_congr_left fun v hv => hasM_congr (h v hv)]

theorem comOf_mono {V : List Int} {a b : List (Int × Int)} (h : ∀ m ∈ a, m ∈ b) : comOf V a ≤ comOf V b := com_mono fun v _ => hasM_mono fun x => h (v, x)

/-- The first that one said. -/
def first (l : List (Bool × Int)) (v : Int) : Option Bool := (l.find? fun x => decide (x.2 = v)).map (·.1)

theorem first_snoc (l : List (Bool × Int)) (b : Bool) (id v : Int) : first (l ++ [(b, id)]) v = (first l v).or (if id = v then some b else none) := by
  unfold first
  rw [List.find?_append]
  cases h : l.find? fun x => decide (x.2 = v) with
  | some y => simp
  | none =>
    simp only [Option.none_or, Option.map_none]
    by_cases e : id = v <;> simp [e]

def saysN (V : List Int) (l : List (Bool × Int)) (b : Bool) : Nat := V.countP fun v => decide (first l v = some b)

/-- How often one that said nothing stands among the voters. -/
def silent (V : List Int) (l : List (Bool × Int)) (id : Int) : Nat := if first l id = none then V.count id else 0

theorem count_or {V : List Int} {p q : Int → Bool} (h : ∀ v ∈ V, ¬ (p v = true ∧ q v = true)) : V.countP (fun v => p v || q v) = V.countP p + V.countP q := by
  induction V with
  | nil => rfl
  | cons x r ih =>
    have hr := ih fun v hv => h v (List.mem_cons_of_mem _ hv)
    have hx := h x List.mem_cons_self
    rw [List.countP_cons, List.countP_cons, List.countP_cons, hr]
    cases hp : p x <;> cases hq : q x <;> simp_all <;> omega

theorem says_snoc (V : List Int) (l : List (Bool × Int)) (b : Bool) (id : Int) (c : Bool) : saysN V (l ++ [(b, id)]) c = saysN V l c + if c = b then silent V l id else 0 := by
  unfold saysN
  by_cases hc : c = b
  · subst hc
    rw [if_pos rfl]
    unfold silent
    by_cases hf : first l id = none
    · rw [if_pos hf]
      have e : V.countP (fun v => decide (first (l ++ [(c, id)]) v = some c)) = V.countP (fun v => decide (first l v = some c) || decide (v = id)) := by
        refine List.countP_congr fun v _ => ?_
        rw [first_snoc]
        by_cases e : id = v
        · subst e; simp [hf]
        · have e' : ¬ v = id := fun h => e h.symm
          simp [e, e']
      rw [e, count_or fun v _ hv => by
        have h1 := of_decide_eq_true hv.1
        have h2 := of_decide_eq_true hv.2
        rw [h2, hf] at h1; cases h1]
      rw [List.count_eq_countP]
      congr 1
    · rw [if_neg hf, Nat.add_zero]
      refine List.countP_congr fun v _ => ?_
      rw [first_snoc]
      by_cases e : id = v
      · subst e
        obtain ⟨y, hy⟩ := Option.ne_none_iff_exists'.1 hf
        simp [hy]
      · simp [e]
  · rw [if_neg hc, Nat.add_zero]
    refine List.countP_congr fun v _ => ?_
    rw [first_snoc]
    by_cases e : id = v
    · subst e
      cases hf : first l id with
      | none =>
        have hc2 : ¬ b = c := fun h => hc h.symm
        simp [hc2]
      | some y => simp
    · simp [e]

theorem silent_snoc (V : List Int) (l : List (Bool × Int)) (b : Bool) (id v : Int) : silent V (l ++ [(b, id)]) v = if v = id then 0 else silent V l v := by
  unfold silent
  rw [first_snoc]
  by_cases e : v = id
  · subst e
    simp
  · have e' : ¬ id = v := fun h => e h.symm
    simp [e, e']

theorem silent_nil (V : List Int) (v : Int) : silent V [] v = V.count v := by simp [silent, first]

theorem says_both (V : List Int) (l : List (Bool × Int)) : saysN V l true + saysN V l false ≤ V.length := by
  unfold saysN
  rw [← count_or fun v _ hv => by
    have h1 := of_decide_eq_true hv.1
    have h2 := of_decide_eq_true hv.2
    rw [h1] at h2; cases h2]
  exact List.countP_le_length

/-- How a poll stands. -/
def standN (n yes no : Nat) : Int := if n / 2 + 1 ≤ yes then 1 else if n - no < n / 2 + 1 then 2 else 0

def standOf (V : List Int) (l : List (Bool × Int)) : Int := standN V.length (saysN V l true) (saysN V l false)

theorem stand_stays (V : List Int) (l : List (Bool × Int)) (x : Bool × Int) (h : standOf V l ≠ 0) : standOf V (l ++ [x]) = standOf V l := by
  obtain ⟨b, id⟩ := x
  have h1 := says_snoc V l b id true
  have h2 := says_snoc V l b id false
  have h3 := says_both V (l ++ [(b, id)])
  unfold standOf standN at h ⊢
  split at h
  · rename_i hw
    rw [if_pos (by omega), if_pos hw]
  · rename_i hw
    split at h
    · rename_i hl
      rw [if_neg hw, if_pos hl, if_neg (by omega), if_pos (by omega)]
    · exact absurd rfl h
end Go.Proofs.Ytckankoaiapcoaa.M
