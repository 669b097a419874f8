/- Acts on a disk as they come in: strings, numbers, and the structs of them. -/
import Derived.Test.YtgiipkmkmomofaaOpenBlist
import Derived.Test.YtgiipkmkmomofaaDiskIn
namespace Go.Proofs.Ytgiipkmkmomofaa.M
open Go.RowKit Go.ChangeShapes Go.WideShapes Go.ChangeAt

/-- An act. -/
structure Ac where
  kind : Int
  names : List ByteArray
  bs : List (List UInt8)
  n : Int
  keep : List Int

def Int64 (x : Int) : Prop := -9223372036854775808 ≤ x ∧ x ≤ 9223372036854775807

/-- How many bytes and names an act has. -/
def nsize (l : List ByteArray) : Nat := (l.map fun s => s.size + 1).sum
def bsize (l : List (List UInt8)) : Nat := (l.map fun b => b.length + 1).sum
def asize (a : Ac) : Nat := a.keep.length + 1 + nsize a.names + bsize a.bs

/-- An act's five cells. -/
def RepA (w : World) (F : Nat → Prop) (a : Ac) (x0 x1 x2 x3 x4 : Value) : Prop :=
  x0 = .int .i64 a.kind ∧ Int64 a.kind ∧ RepSl w F a.names x1 ∧ (∀ s ∈ a.names, s.size ≤ 9223372036854775807) ∧ RepBl w F a.bs x2 ∧ x3 = .int .i64 a.n ∧ Int64 a.n ∧ RepI w F a.keep x4

theorem RepA.same {w w' : World} {F G : Nat → Prop} (hF : ∀ k, F k → G k) (hw : ∀ k, F k → w'.heap[k]? = w.heap[k]?) {a : Ac} {x0 x1 x2 x3 x4 : Value} (h : RepA w F a x0 x1 x2 x3 x4) : RepA w' G a x0 x1 x2 x3 x4 :=
  ⟨h.1, h.2.1, h.2.2.1.same hF hw, h.2.2.2.1, h.2.2.2.2.1.same hF hw, h.2.2.2.2.2.1, h.2.2.2.2.2.2.1, h.2.2.2.2.2.2.2.same hF hw⟩

/-- A slice of acts. -/
def RepAs (w : World) (F : Nat → Prop) (l : List Ac) (v : Value) : Prop :=
  (l = [] ∧ Bare v) ∨ ∃ b off c, v = .slice (some ⟨b, off, none⟩) l.length c ∧ F b ∧ l.length ≤ c ∧ c ≤ 9223372036854775807 ∧
    ∀ (i : Nat) (h : i < l.length), ∃ x0 x1 x2 x3 x4, w.cell? ⟨b, off + i * 5, none⟩ = some x0 ∧ w.cell? ⟨b, off + i * 5 + 1, none⟩ = some x1 ∧ w.cell? ⟨b, off + i * 5 + 2, none⟩ = some x2 ∧ w.cell? ⟨b, off + i * 5 + 3, none⟩ = some x3 ∧ w.cell? ⟨b, off + i * 5 + 4, none⟩ = some x4 ∧ RepA w F l[i] x0 x1 x2 x3 x4

theorem RepAs.same {w w' : World} {F G : Nat → Prop} (hF : ∀ k, F k → G k) (hw : ∀ k, F k → w'.heap[k]? = w.heap[k]?) {l : List Ac} {v : Value} (h : RepAs w F l v) : RepAs w' G l v := by
  rcases h with h | ⟨b, off, c, hv, hb, hl, hm, hc⟩
  · exact .inl h
  · refine .inr ⟨b, off, c, hv, hF b hb, hl, hm, fun i hi => ?_⟩
    obtain ⟨x0, x1, x2, x3, x4, h0, h1, h2, h3, h4, hr⟩ := hc i hi
    have e : ∀ j, w'.cell? ⟨b, j, none⟩ = w.cell? ⟨b, j, none⟩ := fun j => World.cell?_of_block (a := ⟨b, j, none⟩) (hw b hb)
    exact ⟨x0, x1, x2, x3, x4, by rw [e]; exact h0, by rw [e]; exact h1, by rw [e]; exact h2, by rw [e]; exact h3, by rw [e]; exact h4, hr.same hF hw⟩

theorem RepAs.slice {w : World} {F : Nat → Prop} {l : List Ac} {v : Value} (h : RepAs w F l v) : ∃ a c, v = .slice a l.length c ∧ l.length ≤ 9223372036854775807 := by
  rcases h with ⟨rfl, a, c, rfl, _⟩ | ⟨b, off, c, rfl, _, h1, h2, _⟩
  · exact ⟨a, c, rfl, by simp⟩
  · exact ⟨_, c, rfl, by omega⟩

theorem RepAs.elem {w : World} {F : Nat → Prop} {l : List Ac} {a : Option Addr} {n c : Nat} (h : RepAs w F l (.slice a n c)) (i : Nat) (hi : i < l.length) :
    ∃ b off, a = some ⟨b, off, none⟩ ∧ F b ∧ ∃ x0 x1 x2 x3 x4, w.cell? ⟨b, off + i * 5, none⟩ = some x0 ∧ w.cell? ⟨b, off + i * 5 + 1, none⟩ = some x1 ∧ w.cell? ⟨b, off + i * 5 + 2, none⟩ = some x2 ∧ w.cell? ⟨b, off + i * 5 + 3, none⟩ = some x3 ∧ w.cell? ⟨b, off + i * 5 + 4, none⟩ = some x4 ∧ RepA w F l[i] x0 x1 x2 x3 x4 := by
  rcases h with ⟨h, _⟩ | ⟨b, off, c', h, hb, _, _, hc⟩
  · rw [h] at hi; simp at hi
  · cases h
    exact ⟨b, off, rfl, hb, hc i hi⟩

variable {H : Type} {enc : TypeId × Value → H} {w : World}

theorem bulk_sum {α : Type} (f : α → Nat) : ∀ (l : List α) (es : List (DataW H)), l.length = es.length → (∀ (i : Nat) (h1 : i < l.length) (h2 : i < es.length), f l[i] ≤ Rows.uptoBulk es[i]) → (l.map f).sum ≤ Rows.uptoBulkAll es
  | [], _, _, _ => by simp
  | d :: l, [], h, _ => by simp at h
  | d :: l, e :: es, h, hi => by
    have h0 := hi 0 (by simp) (by simp)
    have h1 := bulk_sum f l es (by simpa using h) fun i h1 h2 => hi (i + 1) (by simpa using h1) (by simpa using h2)
    simp only [List.getElem_cons_zero] at h0
    simp only [List.map_cons, List.sum_cons, Rows.uptoBulkAll]
    omega

/-- A slice of elements of one cell, read one by one. -/
theorem slice1 {n len cap : Nat} {a : Addr} {α : Type} {R : Nat → Value → α → Prop} {t e : TypeId} (hce : Try.prog.cellsOf e = 1) {elems rest : List (DataW H × List MemPlace)} (hl : len ≤ cap) (hel : elems.length = len) (h0 : cap ≠ 0)
    (hrd : ∀ i, i < len → (w.cells? 0 (a.add (i * Try.prog.cellsOf e)) (Try.prog.cellsOf e)).bind (DataW.trod enc Try.prog w 0 (fun _ => true) true n e) = elems[i]?)
    (hrl : rest.length = cap - len) (hsp : ∀ j, j < cap - len → (w.cells? 0 (a.add ((len + j) * Try.prog.cellsOf e)) (Try.prog.cellsOf e)).bind (DataW.trod enc Try.prog w 0 (fun _ => true) true n e) = rest[j]?)
    (hR : ∀ i v y, i < len → elems[i]? = some y → DataW.trod enc Try.prog w 0 (fun _ => true) true n e [v] = some y → ∃ d, R i v d) :
    ∃ b off, a = ⟨b, off, none⟩ ∧ b < w.heap.size ∧ ∃ l : List α, l.length = len ∧ ∀ (i : Nat) (hi : i < l.length), ∃ v, w.cell? ⟨b, off + i, none⟩ = some v ∧ R i v l[i] := by
  rw [hce] at hrd hsp
  have hat : ∃ cs', w.cells? 0 (a.add (0 * 1)) 1 = some cs' := by
    by_cases h1 : len = 0
    · have h2 := hsp 0 (by omega)
      rw [List.getElem?_eq_getElem (by omega)] at h2
      obtain ⟨cs', h3, _⟩ := Option.bind_eq_some_iff.1 h2
      exact ⟨cs', by rw [h1] at h3; exact h3⟩
    · have h2 := hrd 0 (by omega)
      rw [List.getElem?_eq_getElem (by omega)] at h2
      obtain ⟨cs', h3, _⟩ := Option.bind_eq_some_iff.1 h2
      exact ⟨cs', h3⟩
  obtain ⟨cs', hat⟩ := hat
  obtain ⟨_, hcl, hcg⟩ := World.cells?_some hat
  have hc0 := hcg 0 (by omega)
  rw [List.getElem?_eq_getElem (by omega)] at hc0
  obtain ⟨hb, hs⟩ := lt_of_cell hc0
  obtain ⟨b, off, sp⟩ := a
  replace hb : b < w.heap.size := hb
  replace hs : sp = none := hs
  subst hs
  obtain ⟨l, hll, hl2⟩ := list_of (R := fun i d => ∃ v, w.cell? ⟨b, off + i, none⟩ = some v ∧ R i v d) len fun i hi => by
    have h2 := hrd i hi
    rw [List.getElem?_eq_getElem (by omega)] at h2
    obtain ⟨cs', h3, h4⟩ := Option.bind_eq_some_iff.1 h2
    obtain ⟨_, h6, h5⟩ := World.cells?_some h3
    obtain ⟨v, rfl⟩ : ∃ v, cs' = [v] := by
      match cs', h6 with
      | [v], _ => exact ⟨v, rfl⟩
    rw [addr_add] at h5
    have g0 := h5 0 (by omega)
    rw [addr_add] at g0
    obtain ⟨d, hd⟩ := hR i v _ hi (List.getElem?_eq_getElem (by omega)) h4
    exact ⟨d, v, by simpa using g0, hd⟩
  exact ⟨b, off, rfl, hb, l, hll, hl2⟩

theorem bulk_pos (d : DataW H) : 1 ≤ Rows.uptoBulk d := by
  cases d with
  | lit l => cases l <;> simp [Rows.uptoBulk]
  | _ => simp [Rows.uptoBulk]

theorem bulk_len : ∀ es : List (DataW H), es.length ≤ Rows.uptoBulkAll es
  | [] => Nat.zero_le _
  | e :: es => by
    have h1 := bulk_pos e
    have h2 := bulk_len es
    simp only [List.length_cons, Rows.uptoBulkAll]
    omega

theorem sum_plus {α : Type} (f : α → Nat) (l : List α) : (l.map fun x => f x + 1).sum = (l.map f).sum + l.length := by
  induction l with
  | nil => rfl
  | cons a r ih => simp only [List.map_cons, List.sum_cons, List.length_cons, ih]; omega

theorem names_of_trod {n : Nat} {cs : List Value} {x : DataW H × List MemPlace} (h : DataW.trod enc Try.prog w 0 (fun _ => true) true (n + 1) 35 cs = some x) :
    ∃ l v, cs = [v] ∧ RepSl w (fun b => b < w.heap.size) l v ∧ (∀ s ∈ l, s.size ≤ 9223372036854775807) ∧ nsize l ≤ 2 * Rows.uptoBulk x.1 := by
  rcases DataW.trod_slice Try.underlying35 h with ⟨rfl, -⟩ | ⟨a, len, cap, elems, rest, m, hm, rfl, hx, -, hl, hc, hel, hrd, hsp, -⟩
  · exact ⟨[], _, rfl, .inl ⟨rfl, Bare.nil⟩, fun s hs => by simp at hs, Nat.zero_le _⟩
  · obtain rfl : n = m := by omega
    unfold maxLen at hc
    obtain ⟨hrl, hsp⟩ := hsp rfl
    by_cases h0 : cap = 0
    · obtain rfl : len = 0 := by omega
      exact ⟨[], _, rfl, .inl ⟨rfl, Bare.at hc⟩, fun s hs => by simp at hs, Nat.zero_le _⟩
    · obtain ⟨b, off, rfl, hb, l, hll, hR⟩ := slice1 (w := w) (enc := enc) (t := 35) (R := fun i v (s : ByteArray) => v = .string s ∧ s.size ≤ 9223372036854775807 ∧ ∀ e, elems[i]? = some e → s.size ≤ Rows.uptoBulk e.1) (show Try.prog.cellsOf 9 = 1 from by kernel_rfl) hl hel h0 hrd hrl hsp fun i v y hi hy ht => by
        obtain ⟨s, hs, hsx, hsz⟩ := DataW.trod_string Try.underlying9 ht
        cases hs
        refine ⟨s, rfl, by unfold maxLen at hsz; exact hsz, fun e he => ?_⟩
        rw [he] at hy
        cases hy
        rw [hsx]
        simp [Rows.uptoBulk]
      subst hll
      have hsz : ∀ s ∈ l, s.size ≤ 9223372036854775807 := fun s hs => by
        obtain ⟨i, hi, rfl⟩ := List.mem_iff_getElem.1 hs
        obtain ⟨v, _, h1, h2, _⟩ := hR i hi
        exact h2
      refine ⟨l, _, rfl, .inr ⟨b, off, cap, rfl, hb, hl, hc, fun i hi => ?_⟩, hsz, ?_⟩
      · obtain ⟨v, h1, h2, -⟩ := hR i hi
        rw [h1, h2]
      · rw [hx]
        have h1 := bulk_sum (fun s : ByteArray => s.size) l (elems.map (·.1)) (by simp [hel]) fun i h1 h2 => by
          have h3 : i < elems.length := by simpa using h2
          obtain ⟨v, -, -, -, h4⟩ := hR i h1
          have := h4 _ (List.getElem?_eq_getElem h3)
          simpa using this
        have h2 := bulk_len (elems.map (·.1))
        simp only [List.length_map] at h2
        have h3 : nsize l = (l.map fun s : ByteArray => s.size).sum + l.length := sum_plus (fun s : ByteArray => s.size) l
        rw [h3]
        simp only [Rows.uptoBulk]
        have h4 : (l.map fun s : ByteArray => s.size).sum ≤ Rows.uptoBulkAll (elems.map (·.1)) := h1
        omega

theorem ints_of_trod {n : Nat} {cs : List Value} {x : DataW H × List MemPlace} (h : DataW.trod enc Try.prog w 0 (fun _ => true) true (n + 1) 37 cs = some x) :
    ∃ l v, cs = [v] ∧ RepI w (fun b => b < w.heap.size) l v ∧ l.length ≤ Rows.uptoBulk x.1 := by
  rcases DataW.trod_slice Try.underlying37 h with ⟨rfl, -⟩ | ⟨a, len, cap, elems, rest, m, hm, rfl, hx, -, hl, hc, hel, hrd, hsp, -⟩
  · exact ⟨[], _, rfl, .inl ⟨rfl, Bare.nil⟩, Nat.zero_le _⟩
  · obtain rfl : n = m := by omega
    unfold maxLen at hc
    obtain ⟨hrl, hsp⟩ := hsp rfl
    by_cases h0 : cap = 0
    · obtain rfl : len = 0 := by omega
      exact ⟨[], _, rfl, .inl ⟨rfl, Bare.at hc⟩, Nat.zero_le _⟩
    · obtain ⟨b, off, rfl, hb, l, hll, hR⟩ := slice1 (w := w) (enc := enc) (t := 37) (R := fun _ v (z : Int) => v = .int .i64 z ∧ -9223372036854775808 ≤ z ∧ z ≤ 9223372036854775807) (show Try.prog.cellsOf 3 = 1 from by kernel_rfl) hl hel h0 hrd hrl hsp fun i v y hi hy ht => by
        obtain ⟨z, hz, -, hw⟩ := DataW.trod_int Try.underlying3 ht
        cases hz
        have := bounds_i64 hw
        exact ⟨z, rfl, this.1, this.2⟩
      subst hll
      refine ⟨l, _, rfl, .inr ⟨b, off, cap, rfl, hb, hl, hc, fun i hi => ?_⟩, ?_⟩
      · obtain ⟨v, h1, h2, h3⟩ := hR i hi
        rw [h1, h2]
        exact ⟨rfl, h3⟩
      · rw [hx]
        have h2 := bulk_len (elems.map (·.1))
        simp only [List.length_map] at h2
        simp only [Rows.uptoBulk]
        omega

theorem blist_bulk {n : Nat} {cs : List Value} {x : DataW H × List MemPlace} (h : DataW.trod enc Try.prog w 0 (fun _ => true) true (n + 1) 36 cs = some x) :
    ∃ l v, cs = [v] ∧ RepBl w (fun b => b < w.heap.size) l v ∧ bsize l ≤ 2 * Rows.uptoBulk x.1 := by
  rcases DataW.trod_slice Try.underlying36 h with ⟨rfl, -⟩ | ⟨a, len, cap, elems, rest, m, hm, rfl, hx, -, hl, hc, hel, hrd, hsp, -⟩
  · exact ⟨[], _, rfl, .inl ⟨rfl, Bare.nil⟩, Nat.zero_le _⟩
  · obtain rfl : n = m := by omega
    unfold maxLen at hc
    obtain ⟨hrl, hsp⟩ := hsp rfl
    by_cases h0 : cap = 0
    · obtain rfl : len = 0 := by omega
      exact ⟨[], _, rfl, .inl ⟨rfl, Bare.at hc⟩, Nat.zero_le _⟩
    · obtain ⟨b, off, rfl, hb, l, hll, hR⟩ := slice1 (w := w) (enc := enc) (t := 36) (R := fun i v (L : List UInt8) => RepB w (fun b => b < w.heap.size) L v ∧ ∀ e, elems[i]? = some e → L.length ≤ Rows.uptoBulk e.1) (show Try.prog.cellsOf 41 = 1 from by kernel_rfl) hl hel h0 hrd hrl hsp fun i v y hi hy ht => by
        obtain ⟨L, v2, hv, hr, hn⟩ := bytes_of_trod ht
        cases hv
        refine ⟨L, hr, fun e he => ?_⟩
        rw [he] at hy
        cases hy
        exact hn
      subst hll
      refine ⟨l, _, rfl, .inr ⟨b, off, cap, rfl, hb, hl, hc, fun i hi => ?_⟩, ?_⟩
      · obtain ⟨v, h1, h2, -⟩ := hR i hi
        exact ⟨v, h1, h2⟩
      · rw [hx]
        have h1 := bulk_sum (fun L : List UInt8 => L.length) l (elems.map (·.1)) (by simp [hel]) fun i h1 h2 => by
          have h3 : i < elems.length := by simpa using h2
          obtain ⟨v, -, -, h4⟩ := hR i h1
          have := h4 _ (List.getElem?_eq_getElem h3)
          simpa using this
        have h2 := bulk_len (elems.map (·.1))
        simp only [List.length_map] at h2
        have h3 : bsize l = (l.map fun s : List UInt8 => s.length).sum + l.length := sum_plus (fun s : List UInt8 => s.length) l
        rw [h3]
        simp only [Rows.uptoBulk]
        have h4 : (l.map fun s : List UInt8 => s.length).sum ≤ Rows.uptoBulkAll (elems.map (·.1)) := h1
        omega

set_option maxRecDepth 20000 in
theorem act_of_trod {n : Nat} {cs : List Value} {x : DataW H × List MemPlace} (h : DataW.trod enc Try.prog w 0 (fun _ => true) true (n + 1) 39 cs = some x) :
    ∃ a x0 x1 x2 x3 x4, cs = [x0, x1, x2, x3, x4] ∧ RepA w (fun b => b < w.heap.size) a x0 x1 x2 x3 x4 ∧ asize a ≤ 2 * Rows.uptoBulk x.1 := by
  obtain ⟨xs, m, hm, hx, hl, hxs, hf⟩ := DataW.trod_struct Try.underlying39 h
  obtain rfl : n = m := by omega
  rw [show Try.prog.cellsOf 39 = 5 from by kernel_rfl] at hl
  obtain ⟨x0, x1, x2, x3, x4, rfl⟩ : ∃ x0 x1 x2 x3 x4, cs = [x0, x1, x2, x3, x4] := by
    match cs, hl with
    | [x0, x1, x2, x3, x4], _ => exact ⟨x0, x1, x2, x3, x4, rfl⟩
  have h0 := hf 0 _ rfl
  have h1 := hf 1 _ rfl
  have h2 := hf 2 _ rfl
  have h3 := hf 3 _ rfl
  have h4 := hf 4 _ rfl
  match xs, hxs with
  | [y0, y1, y2, y3, y4], _ =>
    replace h0 : DataW.trod enc Try.prog w 0 (fun _ => true) true n 3 (List.take (Try.prog.cellsOf 3) (List.drop 0 [x0, x1, x2, x3, x4])) = some y0 := h0
    rw [show Try.prog.cellsOf 3 = 1 from by kernel_rfl] at h0
    replace h0 : DataW.trod enc Try.prog w 0 (fun _ => true) true n 3 [x0] = some y0 := h0
    replace h1 : DataW.trod enc Try.prog w 0 (fun _ => true) true n 35 (List.take (Try.prog.cellsOf 35) (List.drop 1 [x0, x1, x2, x3, x4])) = some y1 := h1
    rw [show Try.prog.cellsOf 35 = 1 from by kernel_rfl] at h1
    replace h1 : DataW.trod enc Try.prog w 0 (fun _ => true) true n 35 [x1] = some y1 := h1
    replace h2 : DataW.trod enc Try.prog w 0 (fun _ => true) true n 36 (List.take (Try.prog.cellsOf 36) (List.drop 2 [x0, x1, x2, x3, x4])) = some y2 := h2
    rw [show Try.prog.cellsOf 36 = 1 from by kernel_rfl] at h2
    replace h2 : DataW.trod enc Try.prog w 0 (fun _ => true) true n 36 [x2] = some y2 := h2
    replace h3 : DataW.trod enc Try.prog w 0 (fun _ => true) true n 3 (List.take (Try.prog.cellsOf 3) (List.drop 3 [x0, x1, x2, x3, x4])) = some y3 := h3
    rw [show Try.prog.cellsOf 3 = 1 from by kernel_rfl] at h3
    replace h3 : DataW.trod enc Try.prog w 0 (fun _ => true) true n 3 [x3] = some y3 := h3
    replace h4 : DataW.trod enc Try.prog w 0 (fun _ => true) true n 37 (List.take (Try.prog.cellsOf 37) (List.drop 4 [x0, x1, x2, x3, x4])) = some y4 := h4
    rw [show Try.prog.cellsOf 37 = 1 from by kernel_rfl] at h4
    replace h4 : DataW.trod enc Try.prog w 0 (fun _ => true) true n 37 [x4] = some y4 := h4
    obtain ⟨z, hz, hzx, hw⟩ := DataW.trod_int Try.underlying3 h0
    obtain ⟨z3, hz3, hz3x, hw3⟩ := DataW.trod_int Try.underlying3 h3
    cases hz
    cases hz3
    cases n with
    | zero => simp [DataW.trod] at h1
    | succ n =>
      obtain ⟨ln, v1, hv1, hr1, hs1, hn1⟩ := names_of_trod h1
      obtain ⟨lb, v2, hv2, hr2, hn2⟩ := blist_bulk h2
      obtain ⟨lk, v4, hv4, hr4, hn4⟩ := ints_of_trod h4
      cases hv1
      cases hv2
      cases hv4
      have b0 := bounds_i64 hw
      have b3 := bounds_i64 hw3
      refine ⟨⟨z, ln, lb, z3, lk⟩, _, _, _, _, _, rfl, ⟨rfl, b0, hr1, hs1, hr2, rfl, b3, hr4⟩, ?_⟩
      rw [hx]
      simp only [List.map_cons, List.map_nil, Rows.uptoBulk, Rows.uptoBulkAll]
      have := bulk_pos y0.1
      unfold asize
      simp only
      omega

set_option maxRecDepth 20000 in
theorem acts_of_trod {n : Nat} {cs : List Value} {x : DataW H × List MemPlace} (h : DataW.trod enc Try.prog w 0 (fun _ => true) true (n + 1) 26 cs = some x) :
    ∃ l v, cs = [v] ∧ RepAs w (fun b => b < w.heap.size) l v ∧ ∀ a ∈ l, asize a ≤ 2 * Rows.uptoBulk x.1 := by
  rcases DataW.trod_slice Try.underlying26 h with ⟨rfl, -⟩ | ⟨a, len, cap, elems, rest, m, hm, rfl, hx, -, hl, hc, hel, hrd, hsp, -⟩
  · exact ⟨[], _, rfl, .inl ⟨rfl, Bare.nil⟩, fun a ha => by simp at ha⟩
  · obtain rfl : n = m := by omega
    unfold maxLen at hc
    rw [show Try.prog.cellsOf 39 = 5 from by kernel_rfl] at hrd hsp
    obtain ⟨hrl, hsp⟩ := hsp rfl
    by_cases h0 : cap = 0
    · obtain rfl : len = 0 := by omega
      exact ⟨[], _, rfl, .inl ⟨rfl, Bare.at hc⟩, fun a ha => by simp at ha⟩
    · have hat : ∃ cs', w.cells? 0 (a.add (0 * 5)) 5 = some cs' := by
        by_cases h1 : len = 0
        · have h2 := hsp 0 (by omega)
          rw [List.getElem?_eq_getElem (by omega)] at h2
          obtain ⟨cs', h3, _⟩ := Option.bind_eq_some_iff.1 h2
          exact ⟨cs', by rw [h1] at h3; exact h3⟩
        · have h2 := hrd 0 (by omega)
          rw [List.getElem?_eq_getElem (by omega)] at h2
          obtain ⟨cs', h3, _⟩ := Option.bind_eq_some_iff.1 h2
          exact ⟨cs', h3⟩
      obtain ⟨cs', hat⟩ := hat
      obtain ⟨_, hcl, hcg⟩ := World.cells?_some hat
      have hc0 := hcg 0 (by omega)
      rw [List.getElem?_eq_getElem (by omega)] at hc0
      obtain ⟨hb, hs⟩ := lt_of_cell hc0
      obtain ⟨b, off, sp⟩ := a
      replace hb : b < w.heap.size := hb
      replace hs : sp = none := hs
      subst hs
      cases n with
      | zero =>
        exfalso
        by_cases h1 : len = 0
        · have h2 := hsp 0 (by omega)
          rw [List.getElem?_eq_getElem (by omega)] at h2
          obtain ⟨cs', h3, h4⟩ := Option.bind_eq_some_iff.1 h2
          simp [DataW.trod] at h4
        · have h2 := hrd 0 (by omega)
          rw [List.getElem?_eq_getElem (by omega)] at h2
          obtain ⟨cs', h3, h4⟩ := Option.bind_eq_some_iff.1 h2
          simp [DataW.trod] at h4
      | succ n =>
      obtain ⟨l, hll, hR⟩ := list_of (R := fun i a => (∃ x0 x1 x2 x3 x4, w.cell? ⟨b, off + i * 5, none⟩ = some x0 ∧ w.cell? ⟨b, off + i * 5 + 1, none⟩ = some x1 ∧ w.cell? ⟨b, off + i * 5 + 2, none⟩ = some x2 ∧ w.cell? ⟨b, off + i * 5 + 3, none⟩ = some x3 ∧ w.cell? ⟨b, off + i * 5 + 4, none⟩ = some x4 ∧ RepA w (fun b => b < w.heap.size) a x0 x1 x2 x3 x4) ∧ ∀ e, elems[i]? = some e → asize a ≤ 2 * Rows.uptoBulk e.1) len fun i hi => by
        have h2 := hrd i hi
        rw [List.getElem?_eq_getElem (by omega)] at h2
        obtain ⟨cs', h3, h4⟩ := Option.bind_eq_some_iff.1 h2
        obtain ⟨d, x0, x1, x2, x3, x4, rfl, hd, hn⟩ := act_of_trod h4
        obtain ⟨_, _, h5⟩ := World.cells?_some h3
        rw [addr_add] at h5
        have g0 := h5 0 (by omega)
        have g1 := h5 1 (by omega)
        have g2 := h5 2 (by omega)
        have g3 := h5 3 (by omega)
        have g4 := h5 4 (by omega)
        rw [addr_add] at g0 g1 g2 g3 g4
        exact ⟨d, ⟨x0, x1, x2, x3, x4, g0, g1, g2, g3, g4, hd⟩, fun e he => by
          rw [List.getElem?_eq_getElem (by omega)] at he
          cases he
          exact hn⟩
      subst hll
      refine ⟨l, _, rfl, .inr ⟨b, off, cap, rfl, hb, hl, hc, fun i hi => (hR i hi).1⟩, fun a ha => ?_⟩
      obtain ⟨i, hi, rfl⟩ := List.mem_iff_getElem.1 ha
      have h3 : i < elems.length := by omega
      have h4 := (hR i hi).2 _ (List.getElem?_eq_getElem h3)
      have h5 : ∀ (es : List (DataW H)) (j : Nat) (hj : j < es.length), Rows.uptoBulk es[j] ≤ Rows.uptoBulkAll es := fun es => by
        induction es with
        | nil => intro j hj; simp at hj
        | cons e es ih =>
          intro j hj
          cases j with
          | zero => simp [Rows.uptoBulkAll]
          | succ j =>
            have := ih j (by simpa using hj)
            simp only [List.getElem_cons_succ, Rows.uptoBulkAll]
            omega
      have h6 := h5 (elems.map (·.1)) i (by simpa using h3)
      rw [hx]
      simp only [List.getElem_map] at h6
      simp only [Rows.uptoBulk]
      omega

set_option maxRecDepth 20000 in
theorem acts_in {W : World} {base : Nat} {v : Value} {d : DataW H} {p : List MemPlace} (h : DataW.Trod enc Try.prog W 0 (fun _ => true) true 26 v d p) (hk : Value.okWide Try.prog W .any base 26 v) :
    ∃ l, RepAs W (fun b => b < W.heap.size) l v ∧ ∀ a ∈ l, asize a ≤ 2 * Rows.uptoBulk d := by
  obtain ⟨a, n, c, rfl⟩ := okWide_slice Try.underlying26 hk
  obtain ⟨fuel, hf⟩ := h
  cases fuel with
  | zero => simp [DataW.trod] at hf
  | succ fuel =>
    obtain ⟨l, v, hv, hr⟩ := acts_of_trod hf
    refine ⟨l, ?_⟩
    have e : [Value.slice a n c] = [v] := hv
    cases e
    exact hr

set_option maxRecDepth 20000 in
theorem ints_in {W : World} {base : Nat} {v : Value} {d : DataW H} {p : List MemPlace} (h : DataW.Trod enc Try.prog W 0 (fun _ => true) true 37 v d p) (hk : Value.okWide Try.prog W .any base 37 v) :
    ∃ l, RepI W (fun b => b < W.heap.size) l v := by
  obtain ⟨a, n, c, rfl⟩ := okWide_slice Try.underlying37 hk
  obtain ⟨fuel, hf⟩ := h
  cases fuel with
  | zero => simp [DataW.trod] at hf
  | succ fuel =>
    obtain ⟨l, v, hv, hr, -⟩ := ints_of_trod hf
    refine ⟨l, ?_⟩
    have e : [Value.slice a n c] = [v] := hv
    cases e
    exact hr
end Go.Proofs.Ytgiipkmkmomofaa.M
