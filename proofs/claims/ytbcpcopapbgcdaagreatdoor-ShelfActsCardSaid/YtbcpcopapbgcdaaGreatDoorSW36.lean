/- Acts on a disk as they come in: strings, numbers, and the structs of them. -/
import Derived.Test.YtbcpcopapbgcdaaGreatDoorSW13
import Derived.Test.YtbcpcopapbgcdaaGreatDoorSW15
namespace Go.Proofs.YtbcpcopapbgcdaaGreatDoor.M
open Go.RowKit Go.ChangeShapes Go.WideShapes Go.ChangeAt

/-- An act. -/
structure Ac where
  kind : Int
  names : List ByteArray
  bs : List (List UInt8)
  n : Int
  keep : List Int

def Int64 (x : Int) : Prop := -9223372036854775808 ≤ x ∧ x ≤ 9223372036854775807

/-- How many bytes and names an act has. -/
def nsize (l : List ByteArray) : Nat := (l.map fun s => s.size + 1).sum
def bsize (l : List (List UInt8)) : Nat := (l.map fun b => b.length + 1).sum
def asize (a : Ac) : Nat := a.keep.length + 1 + nsize a.names + bsize a.bs

/-- An act's five cells. -/
def RepA (w : World) (F : Nat → Prop) (a : Ac) (x0 x1 x2 x3 x4 : Value) : Prop :=
  x0 = .int .i64 a.kind ∧ Int64 a.kind ∧ RepSl w F a.names x1 ∧ (∀ s ∈ a.names, s.size ≤ 9223372036854775807) ∧ RepBl w F a.bs x2 ∧ x3 = .int .i64 a.n ∧ Int64 a.n ∧ RepI w F a.keep x4

theorem RepA.same {w w' : World} {F G : Nat → Prop} (hF : ∀ k, F k → G k) (hw : ∀ k, F k → w'.heap[k]? = w.heap[k]?) {a : Ac} {x0 x1 x2 x3 x4 : Value} (h : RepA w F a x0 x1 x2 x3 x4) : RepA w' G a x0 x1 x2 x3 x4 :=
  ⟨h.1, h.2.1, h.2.2.1.same hF hw, h.2.2.2.1, h.2.2.2.2.1.same hF hw, h.2.2.2.2.2.1, h.2.2.2.2.2.2.1, h.2.2.2.2.2.2.2.same hF hw⟩

/-- A slice of acts. -/
def RepAs (w : World) (F : Nat → Prop) (l : List Ac) (v : Value) : Prop :=
  (l = [] ∧ Bare v) ∨ ∃ b off c, v = .slice (some ⟨b, off, none⟩) l.length c ∧ F b ∧ l.length ≤ c ∧ c ≤ 9223372036854775807 ∧
    ∀ (i : Nat) (h : i < l.length), ∃ x0 x1 x2 x3 x4, w.cell? ⟨b, off + i * 5, none⟩ = some x0 ∧ w.cell? ⟨b, off + i * 5 + 1, none⟩ = some x1 ∧ w.cell? ⟨b, off + i * 5 + 2, none⟩ = some x2 ∧ w.cell? ⟨b, off + i * 5 + 3, none⟩ = some x3 ∧ w.cell? ⟨b, off + i * 5 + 4, none⟩ = some x4 ∧ RepA w F l[i] x0 x1 x2 x3 x4

theorem RepAs.same {w w' : World} {F G : Nat → Prop} (hF : ∀ k, F k → G k) (hw : ∀ k, F k → w'.heap[k]? = w.heap[k]?) {l : List Ac} {v : Value} (h : RepAs w F l v) : RepAs w' G l v := by
  rcases h with h | ⟨b, off, c, hv, hb, hl, hm, hc⟩
  · exact .inl h
  · refine .inr ⟨b, off, c, hv, hF b hb, hl, hm, fun i hi => ?_⟩
    obtain ⟨x0, x1, x2, x3, x4, h0, h1, h2, h3, h4, hr⟩ := hc i hi
    have e : ∀ j, w'.cell? ⟨b, j, none⟩ = w.cell? ⟨b, j, none⟩ := fun j => World.cell?_of_block (a := ⟨b, j, none⟩) (hw b hb)
    exact ⟨x0, x1, x2, x3, x4, by rw [e]; exact h0, by rw [e]; exact h1, by rw [e]; exact h2, by rw [e]; exact h3, by rw [e]; exact h4, hr.same hF hw⟩

theorem RepAs.slice {w : World} {F : Nat → Prop} {l : List Ac} {v : Value} (h : RepAs w F l v) : ∃ a c, v = .slice a l.length c ∧ l.length ≤ 9223372036854775807 := by
  rcases h with ⟨rfl, a, c, rfl, _⟩ | ⟨b, off, c, rfl, _, h1, h2, _⟩
  · exact ⟨a, c, rfl, by simp⟩
  · exact ⟨_, c, rfl, by omega⟩

theorem RepAs.elem {w : World} {F : Nat → Prop} {l : List Ac} {a : Option Addr} {n c : Nat} (h : RepAs w F l (.slice a n c)) (i : Nat) (hi : i < l.length) :
    ∃ b off, a = some ⟨b, off, none⟩ ∧ F b ∧ ∃ x0 x1 x2 x3 x4, w.cell? ⟨b, off + i * 5, none⟩ = some x0 ∧ w.cell? ⟨b, off + i * 5 + 1, none⟩ = some x1 ∧ w.cell? ⟨b, off + i * 5 + 2, none⟩ = some x2 ∧ w.cell? ⟨b, off + i * 5 + 3, none⟩ = some x3 ∧ w.cell? ⟨b, off + i * 5 + 4, none⟩ = some x4 ∧ RepA w F l[i] x0 x1 x2 x3 x4 := by
  rcases h with ⟨h, _⟩ | ⟨b, off, c', h, hb, _, _, hc⟩
  · rw [h] at hi; simp at hi
  · cases h
    exact ⟨b, off, rfl, hb, hc i hi⟩

variable {H : Type} {enc : TypeId × Value → H} {w : World}

theorem bulk_sum {α : Type} (f : α → Nat) : ∀ (l : List α) (es : List (DataW H)), l.length = es.length → (∀ (i : Nat) (h1 : i < l.length) (h2 : i < es.length), f l[i] ≤ Rows.uptoBulk es[i]) → (l.map f).sum ≤ Rows.uptoBulkAll es
  | [], _, _, _ => by simp
  | d :: l, [], h, _ => by simp at h
  | d :: l, e :: es, h, hi => by
    have h0 := hi 0 (by simp) (by simp)
    have h1 := bulk_sum f l es (by simpa using h) fun i h1 h2 => hi (i + 1) (by simpa using h1) (by simpa using h2)
    simp only [List.getElem_cons_zero] at h0
    simp only [List.map_cons, List.sum_cons, Rows.uptoBulkAll]
    omega

/-- A slice of elements of one cell, read one by one. -/
theorem slice1 {n len cap : Nat} {a : Addr} {α : Type} {R : Nat → Value → α → Prop} {t e : TypeId} (hce : Tryz.prog.cellsOf e = 1) {elems rest : List (DataW H × List MemPlace)} (hl : len ≤ cap) (hel : elems.length = len) (h0 : cap ≠ 0)
    (hrd : ∀ i, i < len → (w.cells? 0 (a.add (i * Tryz.prog.cellsOf e)) (Tryz.prog.cellsOf e)).bind (DataW.trod enc Tryz.prog w 0 (fun _ => true) true n e) = elems[i]?)
    (hrl : rest.length = cap - len) (hsp : ∀ j, j < cap - len → (w.cells? 0 (a.add ((len + j) * Tryz.prog.cellsOf e)) (Tryz.prog.cellsOf e)).bind (DataW.trod enc Tryz.prog w 0 (fun _ => true) true n e) = rest[j]?)
    (hR : ∀ i v y, i < len → elems[i]? = some y → DataW.trod enc Tryz.prog w 0 (fun _ => true) true n e [v] = some y → ∃ d, R i v d) :
    ∃ b off, a = ⟨b, off, none⟩ ∧ b < w.heap.size ∧ ∃ l : List α, l.length = len ∧ ∀ (i : Nat) (hi : i < l.length), ∃ v, w.cell? ⟨b, off + i, none⟩ = some v ∧ R i v l[i] := by
  rw [hce] at hrd hsp
  have hat : ∃ cs', w.cells? 0 (a.add (0 * 1)) 1 = some cs' := by
    by_cases h1 : len = 0
    · have h2 := hsp 0 (by omega)
      rw [List.getElem?_eq_getElem (by omega)] at h2
      obtain ⟨cs', h3, _⟩ := Option.bind_eq_some_iff.1 h2
      exact ⟨cs', by rw [h1] at h3; exact h3⟩
    · have h2 := hrd 0 (by omega)
      rw [List.getElem?_eq_getElem (by omega)] at h2
      obtain ⟨cs', h3, _⟩ := Option.bind_eq_some_iff.1 h2
      exact ⟨cs', h3⟩
  obtain ⟨cs', hat⟩ := hat
  obtain ⟨_, hcl, hcg⟩ := World.cells?_some hat
  have hc0 := hcg 0 (by omega)
  rw [List.getElem?_eq_getElem (by omega)] at hc0
  obtain ⟨hb, hs⟩ := lt_of_cell hc0
  obtain ⟨b, off, sp⟩ := a
  replace hb : b < w.heap.size := hb
  replace hs : sp = none := hs
  subst hs
  obtain ⟨l, hll, hl2⟩ := list_of (R := fun i d => ∃ v, w.cell? ⟨b, off + i, none⟩ = some v ∧ R i v d) len fun i hi => by
    have h2 := hrd i hi
    rw [List.getElem?_eq_getElem (by omega)] at h2
    obtain ⟨cs', h3, h4⟩ := Option.bind_eq_some_iff.1 h2
    obtain ⟨_, h6, h5⟩ := World.cells?_some h3
    obtain ⟨v, rfl⟩ : ∃ v, cs' = [v] := by
      match cs', h6 with
      | [v], _ => exact ⟨v, rfl⟩
    rw [addr_add] at h5
    have g0 := h5 0 (by omega)
    rw [addr_add] at g0
    obtain ⟨d, hd⟩ := hR i v _ hi (List.getElem?_eq_getElem (by omega)) h4
    exact ⟨d, v, by simpa using g0, hd⟩
  exact ⟨b, off, rfl, hb, l, hll, hl2⟩

theorem bulk_pos (d : DataW H) : 1 ≤ Rows.uptoBulk d := by
  cases d with
  | lit l => cases l <;> simp [Rows.uptoBulk]
  | _ => simp [Rows.uptoBulk]

theorem bulk_len : ∀ es : List (DataW H), es.length ≤ Rows.uptoBulkAll es
  | [] => Nat.zero_le _
  | e :: es => by
    have h1 := bulk_pos e
    have h2 := bulk_len es
    simp only [List.length_cons, Rows.uptoBulkAll]
    omega

theorem sum_plus {α : Type} (f : α → Nat) (l : List α) : (l.map fun x => f x + 1).sum = (l.map f).sum + l.length := by
  induction l with
  | nil => rfl
  | cons a r ih => simp only [List.map_cons, List.sum_cons, List.length_cons, ih]; omega

theorem names_of_trod {n : Nat} {cs : List Value} {x : DataW H × List MemPlace} (h : DataW.trod enc Tryz.prog w 0 (fun _ => true) true (n + 1) 43 cs = some x) :
    ∃ l v, cs = [v] ∧ RepSl w (fun b => b < w.heap.size) l v ∧ (∀ s ∈ l, s.size ≤ 9223372036854775807) ∧ nsize l ≤ 2 * Rows.uptoBulk x.1 := by
  rcases DataW.trod_slice Tryz.underlying43 h with ⟨rfl, -⟩ | ⟨a, len, cap, elems, rest, m, hm, rfl, hx, -, hl, hc, hel, hrd, hsp, -⟩
  · exact ⟨[], _, rfl, .inl ⟨rfl, Bare.nil⟩, fun s hs => by simp at hs, Nat.zero_le _⟩
  · obtain rfl : n = m := by omega
    unfold maxLen at hc
    obtain ⟨hrl, hsp⟩ := hsp rfl
    by_cases h0 : cap = 0
    · obtain rfl : len = 0 := by omega
      exact ⟨[], _, rfl, .inl ⟨rfl, Bare.at hc⟩, fun s hs => by simp at hs, Nat.zero_le _⟩
    · obtain ⟨b, off, rfl, hb, l, hll, hR⟩ := slice1 (w := w) (enc := enc) (t := 43) (R := fun i v (s : ByteArray) => v = .string s ∧ s.size ≤ 9223372036854775807 ∧ ∀ e, elems[i]? = some e → s.size ≤ Rows.uptoBulk e.1) (show Tryz.prog.cellsOf 9 = 1 from by kernel_rfl) hl hel h0 hrd hrl hsp fun i v y hi hy ht => by
        obtain ⟨s, hs, hsx, hsz⟩ := DataW.trod_string Tryz.underlying9 ht
        cases hs
        refine ⟨s, rfl, by unfold maxLen at hsz; exact hsz, fun e he => ?_⟩
        rw [he] at hy
        cases hy
        rw [hsx]
        simp [Rows.uptoBulk]
      subst hll
      have hsz : ∀ s ∈ l, s.size ≤ 9223372036854775807 := fun s hs => by
        obtain ⟨i, hi, rfl⟩ := List.mem_iff_getElem.1 hs
        obtain ⟨v, _, h1, h2, _⟩ := hR i hi
        exact h2
      refine ⟨l, _, rfl, .inr ⟨b, off, cap, rfl, hb, hl, hc, fun i hi => ?_⟩, hsz, ?_⟩
      · obtain ⟨v, h1, h2, -⟩ := hR i hi
        rw [h1, h2]
      · rw [hx]
        have h1 := bulk_sum (fun s : ByteArray => s.size) l (elems.map (·.1)) (by simp [hel]) fun i h1 h2 => by
          have h3 : i < elems.length := by simpa using h2
          obtain ⟨v, -, -, -, h4⟩ := hR i h1
          have := h4 _ (List.getElem?_eq_getElem h3)
          simpa using this
        have h2 := bulk_len (elems.map (·.1))
        simp only [List.length_map] at h2
        have h3 : nsize l = (l.map fun s : ByteArray => s.size).sum + l.length := sum_plus (fun s : ByteArray => s.size) l
        rw [h3]
        simp only [Rows.uptoBulk]
        have h4 : (l.map fun s : ByteArray => s.size).sum ≤ Rows.uptoBulkAll (elems.map (·.1)) := h1
        omega

theorem ints_of_trod {n : Nat} {cs : List Value} {x : DataW H × List MemPlace} (h : DataW.trod enc Tryz.prog w 0 (fun _ => true) true (n + 1) 22 cs = some x) :
    ∃ l v, cs = [v] ∧ RepI w (fun b => b < w.heap.size) l v ∧ l.length ≤ Rows.uptoBulk x.1 := by
  rcases DataW.trod_slice Tryz.underlying22 h with ⟨rfl, -⟩ | ⟨a, len, cap, elems, rest, m, hm, rfl, hx, -, hl, hc, hel, hrd, hsp, -⟩
  · exact ⟨[], _, rfl, .inl ⟨rfl, Bare.nil⟩, Nat.zero_le _⟩
  · obtain rfl : n = m := by omega
    unfold maxLen at hc
    obtain ⟨hrl, hsp⟩ := hsp rfl
    by_cases h0 : cap = 0
    · obtain rfl : len = 0 := by omega
      exact ⟨[], _, rfl, .inl ⟨rfl, Bare.at hc⟩, Nat.zero_le _⟩
    · obtain ⟨b, off, rfl, hb, l, hll, hR⟩ := slice1 (w := w) (enc := enc) (t := 22) (R := fun _ v (z : Int) => v = .int .i64 z ∧ -9223372036854775808 ≤ z ∧ z ≤ 9223372036854775807) (show Tryz.prog.cellsOf 3 = 1 from by kernel_rfl) hl hel h0 hrd hrl hsp fun i v y hi hy ht => by
        obtain ⟨z, hz, -, hw⟩ := DataW.trod_int Tryz.underlying3 ht
        cases hz
        have := bounds_i64 hw
        exact ⟨z, rfl, this.1, this.2⟩
      subst hll
      refine ⟨l, _, rfl, .inr ⟨b, off, cap, rfl, hb, hl, hc, fun i hi => ?_⟩, ?_⟩
      · obtain ⟨v, h1, h2, h3⟩ := hR i hi
        rw [h1, h2]
        exact ⟨rfl, h3⟩
      · rw [hx]
        have h2 := bulk_len (elems.map (·.1))
        simp only [List.length_map] at h2
        simp only [Rows.uptoBulk]
        omega

theorem blist_bulk {n : Nat} {cs : List Value} {x : DataW H × List MemPlace} (h : DataW.trod enc Tryz.prog w 0 (fun _ => true) true (n + 1) 46 cs = some x) :
    ∃ l v, cs = [v] ∧ RepBl w (fun b => b < w.heap.size) l v ∧ bsize l ≤ 2 * Rows.uptoBulk x.1 := by
  rcases DataW.trod_slice Tryz.underlying46 h with ⟨rfl, -⟩ | ⟨a, len, cap, elems, rest, m, hm, rfl, hx, -, hl, hc, hel, hrd, hsp, -⟩
  · exact ⟨[], _, rfl, .inl ⟨rfl, Bare.nil⟩, Nat.zero_le _⟩
  · obtain rfl : n = m := by omega
    unfold maxLen at hc
    obtain ⟨hrl, hsp⟩ := hsp rfl
    by_cases h0 : cap = 0
    · obtain rfl : len = 0 := by omega
      exact ⟨[], _, rfl, .inl ⟨rfl, Bare.at hc⟩, Nat.zero_le _⟩
    · obtain ⟨b, off, rfl, hb, l, hll, hR⟩ := slice1 (w := w) (enc := enc) (t := 46) (R := fun i v (L : List UInt8) => RepB w (fun b => b < w.heap.size) L v ∧ ∀ e, elems[i]? = some e → L.length ≤ Rows.uptoBulk e.1) (show Tryz.prog.cellsOf 34 = 1 from by kernel_rfl) hl hel h0 hrd hrl hsp fun i v y hi hy ht => by
        obtain ⟨L, v2, hv, hr, hn⟩ := bytes_of_trod ht
        cases hv
        refine ⟨L, hr, fun e he => ?_⟩
        rw [he] at hy
        cases hy
        exact hn
      subst hll
      refine ⟨l, _, rfl, .inr ⟨b, off, cap, rfl, hb, hl, hc, fun i hi => ?_⟩, ?_⟩
      · obtain ⟨v, h1, h2, -⟩ := hR i hi
        exact ⟨v, h1, h2⟩
      · rw [hx]
        have h1 := bulk_sum (fun L : List UInt8 => L.length) l (elems.map (·.1)) (by simp [hel]) fun i h1 h2 => by
          have h3 : i < elems.length := by simpa using h2
          obtain ⟨v, -, -, h4⟩ := hR i h1
          have := h4 _ (List.getElem?_eq_getElem h3)
          simpa using this
        have h2 := bulk_len (elems.map (·.1))
        simp only [List.length_map] at h2
        have h3 : bsize l = (l.map fun s : List UInt8 => s.length).sum + l.length := sum_plus (fun s : List UInt8 => s.length) l
        rw [h3]
        simp only [Rows.uptoBulk]
        have h4 : (l.map fun s : List UInt8 => s.length).sum ≤ Rows.uptoBulkAll (elems.map (·.1)) := h1
        omega

set_option maxRecDepth 20000 in
theorem ints_in {W : World} {base : Nat} {v : Value} {d : DataW H} {p : List MemPlace} (h : DataW.Trod enc Tryz.prog W 0 (fun _ => true) true 22 v d p) (hk : Value.okWide Tryz.prog W .any base 22 v) :
    ∃ l, RepI W (fun b => b < W.heap.size) l v := by
  obtain ⟨a, n, c, rfl⟩ := okWide_slice Tryz.underlying22 hk
  obtain ⟨fuel, hf⟩ := h
  cases fuel with
  | zero => simp [DataW.trod] at hf
  | succ fuel =>
    obtain ⟨l, v, hv, hr, -⟩ := ints_of_trod hf
    refine ⟨l, ?_⟩
    have e : [Value.slice a n c] = [v] := hv
    cases e
    exact hr

set_option maxRecDepth 20000 in
theorem strings_in {W : World} {base : Nat} {v : Value} {d : DataW H} {p : List MemPlace} (h : DataW.Trod enc Tryz.prog W 0 (fun _ => true) true 43 v d p) (hk : Value.okWide Tryz.prog W .any base 43 v) :
    ∃ l, RepSl W (fun b => b < W.heap.size) l v ∧ ∀ s ∈ l, s.size ≤ 9223372036854775807 := by
  obtain ⟨a, n, c, rfl⟩ := okWide_slice Tryz.underlying43 hk
  obtain ⟨fuel, hf⟩ := h
  cases fuel with
  | zero => simp [DataW.trod] at hf
  | succ fuel =>
    obtain ⟨l, v, hv, hr, hs, -⟩ := names_of_trod hf
    refine ⟨l, ?_, hs⟩
    have e : [Value.slice a n c] = [v] := hv
    cases e
    exact hr
end Go.Proofs.YtbcpcopapbgcdaaGreatDoor.M
