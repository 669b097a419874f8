/- Configurations over plain lists: which are right, what a change makes of one, and that majorities meet. -/

namespace Go.Proofs.Ytdngfbljcmbniaa.M

/-- A truth as a bool. -/
noncomputable def yes (p : Prop) : Bool := @decide p (Classical.propDecidable p)

theorem yes_t {p : Prop} (h : p) : yes p = true := by unfold yes; exact @decide_eq_true p (Classical.propDecidable p) h
theorem yes_f {p : Prop} (h : ¬ p) : yes p = false := by unfold yes; exact @decide_eq_false p (Classical.propDecidable p) h
theorem yes_iff {p : Prop} : yes p = true ↔ p := ⟨fun h => Classical.byContradiction (fun hn => by rw [yes_f hn] at h; cases h), yes_t⟩
theorem yes_of {p : Prop} {b : Bool} (h : b = true ↔ p) : yes p = b := by
  cases b with
  | true => exact yes_t (h.1 rfl)
  | false => exact yes_f fun hp => by have := h.2 hp; cases this
theorem yes_congr {p q : Prop} (h : p ↔ q) : yes p = yes q := by rw [propext h]

/-- Numbers of servers. -/
def okN (i : Int) : Prop := 0 ≤ i ∧ i ≤ 1048575

/-- They rise. -/
def Rise (l : List Int) : Prop := (∀ x ∈ l, okN x) ∧ l.Pairwise (· < ·)

theorem Rise.nil : Rise [] := ⟨fun _ h => by simp at h, List.Pairwise.nil⟩

theorem Rise.take {l : List Int} (h : Rise l) (i : Nat) : Rise (l.take i) := ⟨fun x hx => h.1 x (List.mem_of_mem_take hx), h.2.sublist (List.take_sublist i l)⟩

theorem take_snoc {l : List Int} {i : Nat} (hi : i < l.length) : l.take (i + 1) = l.take i ++ [l[i]] := by
  rw [List.take_add_one, List.getElem?_eq_getElem hi]; rfl

theorem rise_step {l : List Int} {i : Nat} (hi : i < l.length) : Rise (l.take (i + 1)) ↔ Rise (l.take i) ∧ okN l[i] ∧ ∀ h0 : 0 < i, l[i - 1] < l[i] := by
  rw [take_snoc hi]
  constructor
  · intro h
    refine ⟨⟨fun x hx => h.1 x (List.mem_append_left _ hx), (List.pairwise_append.1 h.2).1⟩, h.1 _ (List.mem_append_right _ (List.mem_singleton.2 rfl)), fun h0 => ?_⟩
    refine (List.pairwise_append.1 h.2).2.2 _ ?_ _ (by simp)
    exact List.mem_iff_getElem.2 ⟨i - 1, by simp; omega, by simp⟩
  · rintro ⟨h, hk, hl⟩
    refine ⟨fun x hx => ?_, List.pairwise_append.2 ⟨h.2, List.pairwise_singleton _ _, fun x hx y hy => ?_⟩⟩
    · rcases List.mem_append.1 hx with hx | hx
      · exact h.1 x hx
      · simp at hx; rw [hx]; exact hk
    · simp at hy
      subst hy
      obtain ⟨j, hj, rfl⟩ := List.mem_iff_getElem.1 hx
      have hj2 : j < i := by simp at hj; omega
      have h1 := hl (by omega)
      rcases Nat.lt_or_ge j (i - 1) with h2 | h2
      · have h3 := List.pairwise_iff_getElem.1 h.2 j (i - 1) hj (by simp; omega) h2
        simp only [List.getElem_take] at h3 ⊢
        omega
      · obtain rfl : j = i - 1 := by omega
        simpa using h1

/-- A configuration. -/
structure Cf where
  v : List Int
  l : List Int

/-- It is right. -/
def Cf.ok (c : Cf) : Prop := c.v ≠ [] ∧ c.v.length + c.l.length ≤ 9 ∧ Rise c.v ∧ Rise c.l ∧ ∀ x ∈ c.l, x ∉ c.v

def cf0 : Cf := ⟨[], []⟩

/-- A number laid among those that rise. -/
def putN : List Int → Int → List Int
  | [], i => [i]
  | x :: r, i => if i < x then i :: x :: r else x :: putN r i

/-- .. and one taken out. -/
def dropN (l : List Int) (i : Int) : List Int := l.filter (fun x => decide (x ≠ i))

theorem putN_mem {l : List Int} {i x : Int} : x ∈ putN l i ↔ x = i ∨ x ∈ l := by
  induction l with
  | nil => simp [putN]
  | cons y r ih =>
    unfold putN
    split
    · simp
    · simp only [List.mem_cons, ih]
      constructor
      · rintro (h | h | h) <;> simp [h]
      · rintro (h | h | h) <;> simp [h]

theorem putN_len (l : List Int) (i : Int) : (putN l i).length = l.length + 1 := by
  induction l with
  | nil => rfl
  | cons y r ih =>
    unfold putN
    split
    · simp
    · simp [ih]

theorem putN_perm (l : List Int) (i : Int) : (putN l i).Perm (i :: l) := by
  induction l with
  | nil => exact List.Perm.refl _
  | cons y r ih =>
    unfold putN
    split
    · exact List.Perm.refl _
    · exact (ih.cons y).trans (List.Perm.swap i y r)

theorem putN_rise {l : List Int} {i : Int} (h : Rise l) (hi : okN i) (hn : i ∉ l) : Rise (putN l i) := by
  refine ⟨fun x hx => ?_, ?_⟩
  · rcases putN_mem.1 hx with rfl | hx
    · exact hi
    · exact h.1 x hx
  · have hp := h.2
    clear h hi
    induction l with
    | nil => simp [putN]
    | cons y r ih =>
      obtain ⟨h1, h2⟩ := List.pairwise_cons.1 hp
      have hy : i ≠ y := fun e => hn (by simp [e])
      have hr : i ∉ r := fun e => hn (by simp [e])
      unfold putN
      split
      · rename_i hlt
        refine List.pairwise_cons.2 ⟨fun z hz => ?_, hp⟩
        rcases List.mem_cons.1 hz with rfl | hz
        · exact hlt
        · have := h1 z hz; omega
      · rename_i hge
        refine List.pairwise_cons.2 ⟨fun z hz => ?_, ih hr h2⟩
        rcases putN_mem.1 hz with rfl | hz
        · omega
        · exact h1 z hz

theorem count_zero {l : List Int} {i : Int} (h : ∀ x ∈ l, i ≤ x) : l.countP (fun x => decide (x < i)) = 0 :=
  List.countP_eq_zero.2 fun x hx => by have := h x hx; simp; omega

theorem putN_at {l : List Int} {i : Int} (h : l.Pairwise (· < ·)) (hn : i ∉ l) :
    putN l i = l.take (l.countP (fun x => decide (x < i))) ++ i :: l.drop (l.countP (fun x => decide (x < i))) := by
  induction l with
  | nil => rfl
  | cons y r ih =>
    obtain ⟨h1, h2⟩ := List.pairwise_cons.1 h
    have hy : i ≠ y := fun e => hn (by simp [e])
    have hr : i ∉ r := fun e => hn (by simp [e])
    unfold putN
    split
    · rename_i hlt
      rw [count_zero (i := i) (l := y :: r) fun x hx => by
        rcases List.mem_cons.1 hx with rfl | hx
        · omega
        · have := h1 x hx; omega]
      simp
    · rename_i hge
      rw [List.countP_cons_of_pos (by simp; omega), ih h2 hr]
      simp

theorem dropN_at {l : List Int} {i : Int} (h : l.Pairwise (· < ·)) (hm : i ∈ l) :
    dropN l i = l.take (l.countP (fun x => decide (x < i))) ++ l.drop (l.countP (fun x => decide (x < i)) + 1) := by
  unfold dropN
  induction l with
  | nil => simp at hm
  | cons y r ih =>
    obtain ⟨h1, h2⟩ := List.pairwise_cons.1 h
    by_cases hy : i = y
    · subst hy
      rw [count_zero (i := i) (l := i :: r) fun x hx => by
        rcases List.mem_cons.1 hx with rfl | hx
        · omega
        · have := h1 x hx; omega]
      simp only [List.take_zero, List.nil_append, Nat.zero_add, List.drop_succ_cons, List.drop_zero, ne_eq, not_true_eq_false, decide_false, Bool.false_eq_true, not_false_eq_true, List.filter_cons_of_neg]
      refine List.filter_eq_self.2 fun x hx => ?_
      have := h1 x hx
      simp; omega
    · have hr : i ∈ r := by
        rcases List.mem_cons.1 hm with h | h
        · exact absurd h hy
        · exact h
      have := h1 i hr
      rw [List.countP_cons_of_pos (by simp; omega), List.filter_cons_of_pos (by simp; omega), ih h2 hr]
      simp

theorem dropN_none {l : List Int} {i : Int} (h : i ∉ l) : dropN l i = l := List.filter_eq_self.2 fun x hx => by simp; rintro rfl; exact h hx

theorem dropN_mem {l : List Int} {i x : Int} : x ∈ dropN l i ↔ x ∈ l ∧ x ≠ i := by unfold dropN; simp

theorem dropN_rise {l : List Int} {i : Int} (h : Rise l) : Rise (dropN l i) := ⟨fun x hx => h.1 x (dropN_mem.1 hx).1, h.2.sublist List.filter_sublist⟩

theorem count_lt {l : List Int} {i : Int} (hm : i ∈ l) : l.countP (fun x => decide (x < i)) < l.length := by
  induction l with
  | nil => simp at hm
  | cons y r ih =>
    rw [List.countP_cons]
    rcases List.mem_cons.1 hm with rfl | h
    · have := List.countP_le_length (p := fun x => decide (x < i)) (l := r)
      simp; omega
    · have := ih h
      split <;> simp <;> omega

theorem dropN_len {l : List Int} {i : Int} (h : l.Pairwise (· < ·)) (hm : i ∈ l) : (dropN l i).length + 1 = l.length := by
  have hc := count_lt hm
  rw [dropN_at h hm]
  simp only [List.length_append, List.length_take, List.length_drop]
  omega

/-- What one change makes of it, and the error. -/
def next1 (c : Cf) (d i : Int) : Cf × Int :=
  if d < 1 ∨ 3 < d ∨ i < 0 ∨ 1048575 < i then (cf0, 2)
  else if d = 1 then (if i ∈ c.v ∨ i ∈ c.l ∨ 9 ≤ c.v.length + c.l.length then (cf0, 80) else (⟨c.v, putN c.l i⟩, 0))
  else if d = 2 then (if i ∈ c.l then (⟨putN c.v i, dropN c.l i⟩, 0) else (cf0, 80))
  else if i ∈ c.v ∨ i ∈ c.l then (if i ∈ c.v ∧ c.v.length = 1 then (cf0, 81) else (⟨dropN c.v i, dropN c.l i⟩, 0)) else (cf0, 80)

/-- .. and what several do. -/
def nextN : Cf → List (Int × Int) → Cf × Int
  | c, [] => (c, 0)
  | c, (d, i) :: r => if (next1 c d i).2 = 0 then nextN (next1 c d i).1 r else (cf0, (next1 c d i).2)

theorem next1_bad {c : Cf} {d i : Int} (h : d < 1 ∨ 3 < d ∨ i < 0 ∨ 1048575 < i) : next1 c d i = (cf0, 2) := by unfold next1; rw [if_pos h]

theorem next1_add {c : Cf} {d i : Int} (hd : d = 1) (hi : okN i) (h1 : i ∉ c.v) (h2 : i ∉ c.l) (h3 : c.v.length + c.l.length < 9) : next1 c d i = (⟨c.v, putN c.l i⟩, 0) := by
  subst hd
  unfold next1
  rw [if_neg (by have := hi.1; have := hi.2; omega), if_pos rfl, if_neg (by rintro (h | h | h) <;> first | contradiction | omega)]

theorem next1_add_no {c : Cf} {d i : Int} (hd : d = 1) (hi : okN i) (h : i ∈ c.v ∨ i ∈ c.l ∨ 9 ≤ c.v.length + c.l.length) : next1 c d i = (cf0, 80) := by
  subst hd
  unfold next1
  rw [if_neg (by have := hi.1; have := hi.2; omega), if_pos rfl, if_pos h]

theorem next1_pro {c : Cf} {d i : Int} (hd : d = 2) (hi : okN i) (h : i ∈ c.l) : next1 c d i = (⟨putN c.v i, dropN c.l i⟩, 0) := by
  subst hd
  unfold next1
  rw [if_neg (by have := hi.1; have := hi.2; omega), if_neg (by omega), if_pos rfl, if_pos h]

theorem next1_pro_no {c : Cf} {d i : Int} (hd : d = 2) (hi : okN i) (h : i ∉ c.l) : next1 c d i = (cf0, 80) := by
  subst hd
  unfold next1
  rw [if_neg (by have := hi.1; have := hi.2; omega), if_neg (by omega), if_pos rfl, if_neg h]

theorem next1_rem {c : Cf} {d i : Int} (hd : d = 3) (hi : okN i) (h : i ∈ c.v ∨ i ∈ c.l) (h1 : ¬ (i ∈ c.v ∧ c.v.length = 1)) : next1 c d i = (⟨dropN c.v i, dropN c.l i⟩, 0) := by
  subst hd
  unfold next1
  rw [if_neg (by have := hi.1; have := hi.2; omega), if_neg (by omega), if_neg (by omega), if_pos h, if_neg h1]

theorem next1_rem_last {c : Cf} {d i : Int} (hd : d = 3) (hi : okN i) (h1 : i ∈ c.v) (h2 : c.v.length = 1) : next1 c d i = (cf0, 81) := by
  subst hd
  unfold next1
  rw [if_neg (by have := hi.1; have := hi.2; omega), if_neg (by omega), if_neg (by omega), if_pos (.inl h1), if_pos ⟨h1, h2⟩]

theorem next1_rem_no {c : Cf} {d i : Int} (hd : d = 3) (hi : okN i) (h1 : i ∉ c.v) (h2 : i ∉ c.l) : next1 c d i = (cf0, 80) := by
  subst hd
  unfold next1
  rw [if_neg (by have := hi.1; have := hi.2; omega), if_neg (by omega), if_neg (by omega), if_neg (by rintro (h | h) <;> contradiction)]

/-- What a change makes is one of these. -/
theorem next1_cases (c : Cf) (d i : Int) : (next1 c d i).2 = 0 →
    okN i ∧ ((d = 1 ∧ i ∉ c.v ∧ i ∉ c.l ∧ c.v.length + c.l.length < 9 ∧ next1 c d i = (⟨c.v, putN c.l i⟩, 0)) ∨
      (d = 2 ∧ i ∈ c.l ∧ next1 c d i = (⟨putN c.v i, dropN c.l i⟩, 0)) ∨
      (d = 3 ∧ (i ∈ c.v ∨ i ∈ c.l) ∧ ¬ (i ∈ c.v ∧ c.v.length = 1) ∧ next1 c d i = (⟨dropN c.v i, dropN c.l i⟩, 0))) := by
  intro h
  by_cases hb : d < 1 ∨ 3 < d ∨ i < 0 ∨ 1048575 < i
  · rw [next1_bad hb] at h; cases h
  have hi : okN i := ⟨by omega, by omega⟩
  refine ⟨hi, ?_⟩
  rcases (show d = 1 ∨ d = 2 ∨ d = 3 by omega) with hd | hd | hd
  · by_cases hx : i ∈ c.v ∨ i ∈ c.l ∨ 9 ≤ c.v.length + c.l.length
    · rw [next1_add_no hd hi hx] at h; cases h
    · have h1 : i ∉ c.v := fun e => hx (.inl e)
      have h2 : i ∉ c.l := fun e => hx (.inr (.inl e))
      have h3 : c.v.length + c.l.length < 9 := by omega
      exact .inl ⟨hd, h1, h2, h3, next1_add hd hi h1 h2 h3⟩
  · by_cases hx : i ∈ c.l
    · exact .inr (.inl ⟨hd, hx, next1_pro hd hi hx⟩)
    · rw [next1_pro_no hd hi hx] at h; cases h
  · by_cases hx : i ∈ c.v ∨ i ∈ c.l
    · by_cases hy : i ∈ c.v ∧ c.v.length = 1
      · rw [next1_rem_last hd hi hy.1 hy.2] at h; cases h
      · exact .inr (.inr ⟨hd, hx, hy, next1_rem hd hi hx hy⟩)
    · rw [next1_rem_no hd hi (fun e => hx (.inl e)) (fun e => hx (.inr e))] at h; cases h

theorem next1_none {c : Cf} {d i : Int} (h : (next1 c d i).2 ≠ 0) : (next1 c d i).1 = cf0 := by
  by_cases hb : d < 1 ∨ 3 < d ∨ i < 0 ∨ 1048575 < i
  · rw [next1_bad hb]
  have hi : okN i := ⟨by omega, by omega⟩
  rcases (show d = 1 ∨ d = 2 ∨ d = 3 by omega) with hd | hd | hd
  · by_cases hx : i ∈ c.v ∨ i ∈ c.l ∨ 9 ≤ c.v.length + c.l.length
    · rw [next1_add_no hd hi hx]
    · exact absurd (by rw [next1_add hd hi (fun e => hx (.inl e)) (fun e => hx (.inr (.inl e))) (by omega)]) h
  · by_cases hx : i ∈ c.l
    · exact absurd (by rw [next1_pro hd hi hx]) h
    · rw [next1_pro_no hd hi hx]
  · by_cases hx : i ∈ c.v ∨ i ∈ c.l
    · by_cases hy : i ∈ c.v ∧ c.v.length = 1
      · rw [next1_rem_last hd hi hy.1 hy.2]
      · exact absurd (by rw [next1_rem hd hi hx hy]) h
    · rw [next1_rem_no hd hi (fun e => hx (.inl e)) (fun e => hx (.inr e))]

theorem next1_ok {c : Cf} (hc : c.ok) {d i : Int} (h : (next1 c d i).2 = 0) : (next1 c d i).1.ok := by
  obtain ⟨hi, hx⟩ := next1_cases c d i h
  obtain ⟨h1, h2, h3, h4, h5⟩ := hc
  rcases hx with ⟨-, hv, hl, hs, e⟩ | ⟨-, hl, e⟩ | ⟨-, hm, hn, e⟩
  · rw [e]
    refine ⟨h1, ?_, h3, putN_rise h4 hi hl, fun x hx => ?_⟩
    · have := putN_len c.l i
      show c.v.length + (putN c.l i).length ≤ 9
      omega
    · rcases putN_mem.1 hx with rfl | hx
      · exact hv
      · exact h5 x hx
  · rw [e]
    refine ⟨fun h => ?_, ?_, putN_rise h3 hi (h5 i hl), dropN_rise h4, fun x hx hx2 => ?_⟩
    · have := congrArg List.length h
      rw [putN_len] at this
      cases this
    · have := putN_len c.v i
      have := dropN_len h4.2 hl
      show (putN c.v i).length + (dropN c.l i).length ≤ 9
      omega
    · obtain ⟨h6, h7⟩ := dropN_mem.1 hx
      rcases putN_mem.1 hx2 with h8 | h8
      · exact h7 h8
      · exact h5 x h6 h8
  · rw [e]
    have hl1 : (dropN c.v i).length ≤ c.v.length := List.length_filter_le ..
    have hl2 : (dropN c.l i).length ≤ c.l.length := List.length_filter_le ..
    refine ⟨fun h => ?_, ?_, dropN_rise h3, dropN_rise h4, fun x hx hx2 => h5 x (dropN_mem.1 hx).1 (dropN_mem.1 hx2).1⟩
    · by_cases hv : i ∈ c.v
      · have h6 := dropN_len h3.2 hv
        have h7 : (dropN c.v i).length = 0 := by rw [show dropN c.v i = [] from h]; rfl
        exact hn ⟨hv, by omega⟩
      · have : dropN c.v i = [] := h
        rw [dropN_none hv] at this
        exact h1 this
    · show (dropN c.v i).length + (dropN c.l i).length ≤ 9
      omega

theorem nextN_ok {c : Cf} (hc : c.ok) (cs : List (Int × Int)) (h : (nextN c cs).2 = 0) : (nextN c cs).1.ok := by
  induction cs generalizing c with
  | nil => exact hc
  | cons x r ih =>
    obtain ⟨d, i⟩ := x
    unfold nextN at h ⊢
    by_cases h0 : (next1 c d i).2 = 0
    · rw [if_pos h0] at h ⊢
      exact ih (next1_ok hc h0) h
    · rw [if_neg h0] at h
      exact absurd h h0

/-- The first k changes went well, and what came of them. -/
def Went (c : Cf) (cs : List (Int × Int)) (k : Nat) (c' : Cf) : Prop := nextN c cs = nextN c' (cs.drop k) ∧ c'.ok

theorem Went.start {c : Cf} {cs : List (Int × Int)} (h : c.ok) : Went c cs 0 c := ⟨rfl, h⟩

theorem Went.fail {c c' : Cf} {cs : List (Int × Int)} {k : Nat} (h : Went c cs k c') (hk : k < cs.length) (he : (next1 c' cs[k].1 cs[k].2).2 ≠ 0) : nextN c cs = (cf0, (next1 c' cs[k].1 cs[k].2).2) := by
  rw [h.1, List.drop_eq_getElem_cons hk]
  exact if_neg he

theorem Went.step {c c' : Cf} {cs : List (Int × Int)} {k : Nat} (h : Went c cs k c') (hk : k < cs.length) (he : (next1 c' cs[k].1 cs[k].2).2 = 0) : Went c cs (k + 1) (next1 c' cs[k].1 cs[k].2).1 := by
  refine ⟨?_, next1_ok h.2 he⟩
  rw [h.1, List.drop_eq_getElem_cons hk]
  exact if_pos he

theorem Went.done {c c' : Cf} {cs : List (Int × Int)} {k : Nat} (h : Went c cs k c') (hk : cs.length ≤ k) : nextN c cs = (c', 0) := by
  rw [h.1, List.drop_eq_nil_of_le hk]
  rfl

/-- More than half of the voters are among them. -/
def maj (c : Cf) (ids : List Int) : Prop := c.v.length < 2 * c.v.countP (fun x => decide (x ∈ ids))

theorem meet_lists {V : List Int} {p q : Int → Bool} (h : V.length < V.countP p + V.countP q) : ∃ x ∈ V, p x = true ∧ q x = true := by
  induction V with
  | nil => simp at h
  | cons y r ih =>
    by_cases hy : p y = true ∧ q y = true
    · exact ⟨y, by simp, hy⟩
    · have h2 : r.length < r.countP p + r.countP q := by
        rw [List.countP_cons, List.countP_cons, List.length_cons] at h
        rcases hp : p y <;> rcases hq : q y <;> simp [hp, hq] at h hy <;> omega
      obtain ⟨x, hx, hpq⟩ := ih h2
      exact ⟨x, by simp [hx], hpq⟩

theorem maj_meet {c : Cf} {a b : List Int} (ha : maj c a) (hb : maj c b) : ∃ x ∈ c.v, x ∈ a ∧ x ∈ b := by
  unfold maj at ha hb
  obtain ⟨x, hx, h1, h2⟩ := meet_lists (V := c.v) (p := fun x => decide (x ∈ a)) (q := fun x => decide (x ∈ b)) (by omega)
  exact ⟨x, hx, by simpa using h1, by simpa using h2⟩

theorem count_put (v : List Int) (i : Int) (p : Int → Bool) : (putN v i).countP p ≤ v.countP p + 1 := by
  rw [(putN_perm v i).countP_eq, List.countP_cons]
  split <;> omega

theorem count_drop (v : List Int) (i : Int) (p : Int → Bool) : (dropN v i).countP p ≤ v.countP p := List.filter_sublist.countP_le

theorem maj_next {c : Cf} (hc : c.ok) {d i : Int} (h : (next1 c d i).2 = 0) {a b : List Int} (ha : maj c a) (hb : maj (next1 c d i).1 b) : ∃ x ∈ c.v, x ∈ a ∧ x ∈ b := by
  obtain ⟨-, hx⟩ := next1_cases c d i h
  have key : c.v.length < c.v.countP (fun x => decide (x ∈ a)) + c.v.countP (fun x => decide (x ∈ b)) := by
    unfold maj at ha hb
    rcases hx with ⟨-, hv, hl, hs, e⟩ | ⟨-, hl, e⟩ | ⟨-, hm, hn, e⟩
    · rw [e] at hb
      have hb' : c.v.length < 2 * c.v.countP (fun x => decide (x ∈ b)) := hb
      omega
    · rw [e] at hb
      have hb' : (putN c.v i).length < 2 * (putN c.v i).countP (fun x => decide (x ∈ b)) := hb
      have h1 := count_put c.v i (fun x => decide (x ∈ b))
      rw [putN_len] at hb'
      omega
    · rw [e] at hb
      have hb' : (dropN c.v i).length < 2 * (dropN c.v i).countP (fun x => decide (x ∈ b)) := hb
      have h1 := count_drop c.v i (fun x => decide (x ∈ b))
      by_cases hv : i ∈ c.v
      · have := dropN_len hc.2.2.1.2 hv
        omega
      · rw [dropN_none hv] at hb'
        omega
  obtain ⟨x, hx, h1, h2⟩ := meet_lists key
  exact ⟨x, hx, by simpa using h1, by simpa using h2⟩
end Go.Proofs.Ytdngfbljcmbniaa.M
