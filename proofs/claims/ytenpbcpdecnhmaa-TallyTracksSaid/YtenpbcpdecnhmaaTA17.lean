/- The law's has; what a track is told, as it comes in. -/
import Derived.Test.YtenpbcpdecnhmaaTA14
import Derived.Test.YtenpbcpdecnhmaaTA16
namespace Go.Proofs.Ytenpbcpdecnhmaa.M
open Go.RowKit Go.ChangeShapes Go.WideShapes Go.ChangeAt

set_option maxRecDepth 20000 in
set_option maxHeartbeats 1600000 in
theorem has_any (l : List Pr) (id : Int) (F : Nat → Prop) (v : Value) (w : World) (hv : RepP w F l v) :
    Calls Try.prog 24 #[v, .int .i64 id] w fun e w' => e = .returned (.bool (decide (∃ x ∈ l, x.1 = id))) ∧ w' = w := by
  obtain ⟨va, vc, rfl, hv1, hv2⟩ := hv.slice
  obtain ⟨n, hn⟩ : ∃ n, n = l.length := ⟨_, rfl⟩
  rw [← hn] at hv hv1 ⊢
  obtain ⟨y, hy⟩ : ∃ y, y = decide (∃ x ∈ l, x.1 = id) := ⟨_, rfl⟩
  rw [← hy]
  have HV := Lib.hid hv
  have HN := Lib.hid hn
  have HY := Lib.hid hy
  clear hv hn hy
  go_enter Try.func24, Try.ntmps24
  go_wp2_with fail
  go_loopw [5] (fun i wr => ∃ k : Nat, k ≤ n ∧ i = .int .i64 (k : Int) ∧ Hid (wr = w) ∧ Hid (∀ x ∈ l.take k, x.1 ≠ id)) (fun i _ => n - (intOf i).toNat)
  case atStart => exact ⟨0, Nat.zero_le _, rfl, Lib.hid rfl, Lib.hid (fun x hx => by simp at hx)⟩
  case round =>
    obtain ⟨k, hk, rfl, HW, HH⟩ := hrel
    by_cases hlt : k < n
    · have hkk : (k : Int) < (n : Int) := by omega
      have hlt2 : k < l.length := by rw [← HN.out]; exact hlt
      obtain ⟨b, off, rfl, -, e0, -, -⟩ := (HW.out ▸ HV.out : RepP wr F l (.slice va n vc)).elem k hlt2
      obtain ⟨u, hu⟩ : ∃ u, u = l[k].1 := ⟨_, rfl⟩
      rw [← hu] at e0
      have HU := Lib.hid hu
      clear hu
      by_cases h1 : u = id
      · have q1 : (u == id) = true := by simp [h1]
        have HT : Hid (y = true) := Lib.hid (by rw [HY.out]; exact decide_eq_true ⟨l[k], List.getElem_mem hlt2, by rw [← HU.out]; exact h1⟩)
        clear h1
        go_wp2_with fail
        go_ret
        exact ⟨by rw [HT.out]; rfl, HW.out⟩
      · have q1 : (u == id) = false := by simpa using h1
        have HT : Hid (∀ x ∈ l.take (k + 1), x.1 ≠ id) := Lib.hid (by
          intro x hx
          rw [List.take_add_one, List.getElem?_eq_getElem hlt2, Option.toList_some] at hx
          rcases List.mem_append.1 hx with hx | hx
          · exact HH.out x hx
          · rw [List.mem_singleton.1 hx, ← HU.out]; exact h1)
        clear h1
        go_wp2_with fail
        go_roundw
        case rel => exact ⟨k + 1, by omega, by go_num, HW, HT⟩
        case measure => simp only [intOf]; omega
    · obtain rfl : k = n := by omega
      have hkk : ¬ ((k : Nat) : Int) < (k : Int) := by omega
      have HT : Hid (y = false) := Lib.hid (by
        rw [HY.out]
        refine decide_eq_false fun ⟨x, hx, e⟩ => HH.out x ?_ e
        rw [HN.out, List.take_length]; exact hx)
      clear HH
      go_wp2_with fail
      go_ret
      exact ⟨by rw [HT.out]; rfl, HW.out⟩

/-- What a track is told. -/
structure Tk where
  kind : Int
  id : Int
  index : Int
  hint : Int
  last : Int
  ids : List Int

def RepK (w : World) (F : Nat → Prop) (a : Tk) (x0 x1 x2 x3 x4 x5 : Value) : Prop :=
  x0 = .int .i64 a.kind ∧ x1 = .int .i64 a.id ∧ x2 = .int .i64 a.index ∧ x3 = .int .i64 a.hint ∧ x4 = .int .i64 a.last ∧ RepI w F a.ids x5 ∧ In1 a.kind ∧ In1 a.id ∧ In1 a.index ∧ In1 a.hint ∧ In1 a.last

theorem RepK.same {w w' : World} {F G : Nat → Prop} (hF : ∀ k, F k → G k) (hw : ∀ k, F k → w'.heap[k]? = w.heap[k]?) {a : Tk} {x0 x1 x2 x3 x4 x5 : Value} (h : RepK w F a x0 x1 x2 x3 x4 x5) : RepK w' G a x0 x1 x2 x3 x4 x5 :=
  ⟨h.1, h.2.1, h.2.2.1, h.2.2.2.1, h.2.2.2.2.1, h.2.2.2.2.2.1.same hF hw, h.2.2.2.2.2.2⟩

/-- A slice of them. -/
def RepKs (w : World) (F : Nat → Prop) (l : List Tk) (v : Value) : Prop :=
  (l = [] ∧ Bare v) ∨ ∃ b off c, v = .slice (some ⟨b, off, none⟩) l.length c ∧ F b ∧ l.length ≤ c ∧ c ≤ 9223372036854775807 ∧
    ∀ (i : Nat) (h : i < l.length), ∃ x0 x1 x2 x3 x4 x5, w.cell? ⟨b, off + i * 6, none⟩ = some x0 ∧ w.cell? ⟨b, off + i * 6 + 1, none⟩ = some x1 ∧ w.cell? ⟨b, off + i * 6 + 2, none⟩ = some x2 ∧ w.cell? ⟨b, off + i * 6 + 3, none⟩ = some x3 ∧ w.cell? ⟨b, off + i * 6 + 4, none⟩ = some x4 ∧ w.cell? ⟨b, off + i * 6 + 5, none⟩ = some x5 ∧ RepK w F l[i] x0 x1 x2 x3 x4 x5

theorem RepKs.same {w w' : World} {F G : Nat → Prop} (hF : ∀ k, F k → G k) (hw : ∀ k, F k → w'.heap[k]? = w.heap[k]?) {l : List Tk} {v : Value} (h : RepKs w F l v) : RepKs w' G l v := by
  rcases h with h | ⟨b, off, c, hv, hb, hl, hm, hc⟩
  · exact .inl h
  · refine .inr ⟨b, off, c, hv, hF b hb, hl, hm, fun i hi => ?_⟩
    obtain ⟨x0, x1, x2, x3, x4, x5, h0, h1, h2, h3, h4, h5, hr⟩ := hc i hi
    have e : ∀ j, w'.cell? ⟨b, j, none⟩ = w.cell? ⟨b, j, none⟩ := fun j => World.cell?_of_block (a := ⟨b, j, none⟩) (hw b hb)
    exact ⟨x0, x1, x2, x3, x4, x5, by rw [e]; exact h0, by rw [e]; exact h1, by rw [e]; exact h2, by rw [e]; exact h3, by rw [e]; exact h4, by rw [e]; exact h5, hr.same hF hw⟩

theorem RepKs.below {w w' : World} {F : Nat → Prop} {l : List Tk} {v : Value} (h : RepKs w F l v) (hF : ∀ k, F k → k < w.heap.size) (hb : Below w.heap.size w w') : RepKs w' F l v := h.same (fun _ h => h) fun k hk => hb.block k (hF k hk)

theorem RepKs.slice {w : World} {F : Nat → Prop} {l : List Tk} {v : Value} (h : RepKs w F l v) : ∃ a c, v = .slice a l.length c ∧ l.length ≤ 9223372036854775807 := by
  rcases h with ⟨rfl, a, c, rfl, _⟩ | ⟨b, off, c, rfl, _, h1, h2, _⟩
  · exact ⟨a, c, rfl, by simp⟩
  · exact ⟨_, c, rfl, by omega⟩

theorem RepKs.elem {w : World} {F : Nat → Prop} {l : List Tk} {a : Option Addr} {n c : Nat} (h : RepKs w F l (.slice a n c)) (i : Nat) (hi : i < l.length) :
    ∃ b off, a = some ⟨b, off, none⟩ ∧ F b ∧ ∃ x0 x1 x2 x3 x4 x5, w.cell? ⟨b, off + i * 6, none⟩ = some x0 ∧ w.cell? ⟨b, off + i * 6 + 1, none⟩ = some x1 ∧ w.cell? ⟨b, off + i * 6 + 2, none⟩ = some x2 ∧ w.cell? ⟨b, off + i * 6 + 3, none⟩ = some x3 ∧ w.cell? ⟨b, off + i * 6 + 4, none⟩ = some x4 ∧ w.cell? ⟨b, off + i * 6 + 5, none⟩ = some x5 ∧ RepK w F l[i] x0 x1 x2 x3 x4 x5 := by
  rcases h with ⟨h, _⟩ | ⟨b, off, c', h, hb, _, _, hc⟩
  · rw [h] at hi; simp at hi
  · cases h
    exact ⟨b, off, rfl, hb, hc i hi⟩

variable {H : Type} {enc : TypeId × Value → H} {w : World}

set_option maxRecDepth 20000 in
theorem tk_of_trod {n : Nat} {cs : List Value} {x : DataW H × List MemPlace} (h : DataW.trod enc Try.prog w 0 (fun _ => true) true (n + 1) 50 cs = some x) :
    ∃ a x0 x1 x2 x3 x4 x5, cs = [x0, x1, x2, x3, x4, x5] ∧ RepK w (fun b => b < w.heap.size) a x0 x1 x2 x3 x4 x5 := by
  obtain ⟨xs, m, hm, hx, hl, hxs, hf⟩ := DataW.trod_struct Try.underlying50 h
  obtain rfl : n = m := by omega
  rw [show Try.prog.cellsOf 50 = 6 from by kernel_rfl] at hl
  obtain ⟨x0, x1, x2, x3, x4, x5, rfl⟩ : ∃ x0 x1 x2 x3 x4 x5, cs = [x0, x1, x2, x3, x4, x5] := by
    match cs, hl with
    | [x0, x1, x2, x3, x4, x5], _ => exact ⟨x0, x1, x2, x3, x4, x5, rfl⟩
  have h0 := hf 0 _ rfl
  have h1 := hf 1 _ rfl
  have h2 := hf 2 _ rfl
  have h3 := hf 3 _ rfl
  have h4 := hf 4 _ rfl
  have h5 := hf 5 _ rfl
  match xs, hxs with
  | [y0, y1, y2, y3, y4, y5], _ =>
    replace h0 : DataW.trod enc Try.prog w 0 (fun _ => true) true n 3 (List.take (Try.prog.cellsOf 3) (List.drop 0 [x0, x1, x2, x3, x4, x5])) = some y0 := h0
    rw [show Try.prog.cellsOf 3 = 1 from by kernel_rfl] at h0
    replace h0 : DataW.trod enc Try.prog w 0 (fun _ => true) true n 3 [x0] = some y0 := h0
    replace h1 : DataW.trod enc Try.prog w 0 (fun _ => true) true n 3 (List.take (Try.prog.cellsOf 3) (List.drop 1 [x0, x1, x2, x3, x4, x5])) = some y1 := h1
    rw [show Try.prog.cellsOf 3 = 1 from by kernel_rfl] at h1
    replace h1 : DataW.trod enc Try.prog w 0 (fun _ => true) true n 3 [x1] = some y1 := h1
    replace h2 : DataW.trod enc Try.prog w 0 (fun _ => true) true n 3 (List.take (Try.prog.cellsOf 3) (List.drop 2 [x0, x1, x2, x3, x4, x5])) = some y2 := h2
    rw [show Try.prog.cellsOf 3 = 1 from by kernel_rfl] at h2
    replace h2 : DataW.trod enc Try.prog w 0 (fun _ => true) true n 3 [x2] = some y2 := h2
    replace h3 : DataW.trod enc Try.prog w 0 (fun _ => true) true n 3 (List.take (Try.prog.cellsOf 3) (List.drop 3 [x0, x1, x2, x3, x4, x5])) = some y3 := h3
    rw [show Try.prog.cellsOf 3 = 1 from by kernel_rfl] at h3
    replace h3 : DataW.trod enc Try.prog w 0 (fun _ => true) true n 3 [x3] = some y3 := h3
    replace h4 : DataW.trod enc Try.prog w 0 (fun _ => true) true n 3 (List.take (Try.prog.cellsOf 3) (List.drop 4 [x0, x1, x2, x3, x4, x5])) = some y4 := h4
    rw [show Try.prog.cellsOf 3 = 1 from by kernel_rfl] at h4
    replace h4 : DataW.trod enc Try.prog w 0 (fun _ => true) true n 3 [x4] = some y4 := h4
    replace h5 : DataW.trod enc Try.prog w 0 (fun _ => true) true n 22 (List.take (Try.prog.cellsOf 22) (List.drop 5 [x0, x1, x2, x3, x4, x5])) = some y5 := h5
    rw [show Try.prog.cellsOf 22 = 1 from by kernel_rfl] at h5
    replace h5 : DataW.trod enc Try.prog w 0 (fun _ => true) true n 22 [x5] = some y5 := h5
    obtain ⟨z0, e0, -, w0⟩ := DataW.trod_int Try.underlying3 h0
    cases e0
    obtain ⟨z1, e1, -, w1⟩ := DataW.trod_int Try.underlying3 h1
    cases e1
    obtain ⟨z2, e2, -, w2⟩ := DataW.trod_int Try.underlying3 h2
    cases e2
    obtain ⟨z3, e3, -, w3⟩ := DataW.trod_int Try.underlying3 h3
    cases e3
    obtain ⟨z4, e4, -, w4⟩ := DataW.trod_int Try.underlying3 h4
    cases e4
    obtain ⟨lk, r5⟩ := ints_of h5
    exact ⟨⟨z0, z1, z2, z3, z4, lk⟩, _, _, _, _, _, _, rfl, rfl, rfl, rfl, rfl, rfl, r5, bounds_i64 w0, bounds_i64 w1, bounds_i64 w2, bounds_i64 w3, bounds_i64 w4⟩

set_option maxRecDepth 20000 in
theorem tks_of_trod {n : Nat} {cs : List Value} {x : DataW H × List MemPlace} (h : DataW.trod enc Try.prog w 0 (fun _ => true) true (n + 1) 44 cs = some x) :
    ∃ l v, cs = [v] ∧ RepKs w (fun b => b < w.heap.size) l v := by
  rcases DataW.trod_slice Try.underlying44 h with ⟨rfl, -⟩ | ⟨a, len, cap, elems, rest, m, hm, rfl, hx, -, hl, hc, hel, hrd, hsp, -⟩
  · exact ⟨[], _, rfl, .inl ⟨rfl, Bare.nil⟩⟩
  · obtain rfl : n = m := by omega
    unfold maxLen at hc
    rw [show Try.prog.cellsOf 50 = 6 from by kernel_rfl] at hrd hsp
    obtain ⟨hrl, hsp⟩ := hsp rfl
    by_cases h0 : cap = 0
    · obtain rfl : len = 0 := by omega
      exact ⟨[], _, rfl, .inl ⟨rfl, Bare.at hc⟩⟩
    · have hat : ∃ cs', w.cells? 0 (a.add (0 * 6)) 6 = some cs' := by
        by_cases h1 : len = 0
        · have h2 := hsp 0 (by omega)
          rw [List.getElem?_eq_getElem (by omega)] at h2
          obtain ⟨cs', h3, _⟩ := Option.bind_eq_some_iff.1 h2
          exact ⟨cs', by rw [h1] at h3; exact h3⟩
        · have h2 := hrd 0 (by omega)
          rw [List.getElem?_eq_getElem (by omega)] at h2
          obtain ⟨cs', h3, _⟩ := Option.bind_eq_some_iff.1 h2
          exact ⟨cs', h3⟩
      obtain ⟨cs', hat⟩ := hat
      obtain ⟨_, hcl, hcg⟩ := World.cells?_some hat
      have hc0 := hcg 0 (by omega)
      rw [List.getElem?_eq_getElem (by omega)] at hc0
      obtain ⟨hb, hs⟩ := lt_of_cell hc0
      obtain ⟨b, off, sp⟩ := a
      replace hb : b < w.heap.size := hb
      replace hs : sp = none := hs
      subst hs
      cases n with
      | zero =>
        exfalso
        by_cases h1 : len = 0
        · have h2 := hsp 0 (by omega)
          rw [List.getElem?_eq_getElem (by omega)] at h2
          obtain ⟨cs', h3, h4⟩ := Option.bind_eq_some_iff.1 h2
          simp [DataW.trod] at h4
        · have h2 := hrd 0 (by omega)
          rw [List.getElem?_eq_getElem (by omega)] at h2
          obtain ⟨cs', h3, h4⟩ := Option.bind_eq_some_iff.1 h2
          simp [DataW.trod] at h4
      | succ n =>
      obtain ⟨l, hll, hR⟩ := list_of (R := fun i (a : Tk) => ∃ x0 x1 x2 x3 x4 x5, w.cell? ⟨b, off + i * 6, none⟩ = some x0 ∧ w.cell? ⟨b, off + i * 6 + 1, none⟩ = some x1 ∧ w.cell? ⟨b, off + i * 6 + 2, none⟩ = some x2 ∧ w.cell? ⟨b, off + i * 6 + 3, none⟩ = some x3 ∧ w.cell? ⟨b, off + i * 6 + 4, none⟩ = some x4 ∧ w.cell? ⟨b, off + i * 6 + 5, none⟩ = some x5 ∧ RepK w (fun b => b < w.heap.size) a x0 x1 x2 x3 x4 x5) len fun i hi => by
        have h2 := hrd i hi
        rw [List.getElem?_eq_getElem (by omega)] at h2
        obtain ⟨cs', h3, h4⟩ := Option.bind_eq_some_iff.1 h2
        obtain ⟨d, x0, x1, x2, x3, x4, x5, rfl, hd⟩ := tk_of_trod h4
        obtain ⟨_, _, h5⟩ := World.cells?_some h3
        rw [addr_add] at h5
        have g0 := h5 0 (by omega)
        have g1 := h5 1 (by omega)
        have g2 := h5 2 (by omega)
        have g3 := h5 3 (by omega)
        have g4 := h5 4 (by omega)
        have g5 := h5 5 (by omega)
        rw [addr_add] at g0 g1 g2 g3 g4 g5
        exact ⟨d, x0, x1, x2, x3, x4, x5, g0, g1, g2, g3, g4, g5, hd⟩
      subst hll
      exact ⟨l, _, rfl, .inr ⟨b, off, cap, rfl, hb, hl, hc, fun i hi => hR i hi⟩⟩

set_option maxRecDepth 20000 in
theorem tks_in {W : World} {base : Nat} {v : Value} {d : DataW H} {p : List MemPlace} (h : DataW.Trod enc Try.prog W 0 (fun _ => true) true 44 v d p) (hk : Value.okWide Try.prog W .any base 44 v) :
    ∃ l, RepKs W (fun b => b < W.heap.size) l v := by
  obtain ⟨a, n, c, rfl⟩ := okWide_slice Try.underlying44 hk
  obtain ⟨fuel, hf⟩ := h
  cases fuel with
  | zero => simp [DataW.trod] at hf
  | succ fuel =>
    obtain ⟨l, v, hv, hr⟩ := tks_of_trod hf
    refine ⟨l, ?_⟩
    have e : [Value.slice a n c] = [v] := hv
    cases e
    exact hr
end Go.Proofs.Ytenpbcpdecnhmaa.M
