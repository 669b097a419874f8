/- A snapshot as it comes in. Acts on a shelf as they come in; slices of structs of any number of cells. Both disks are the same, byte by byte: the helper of law 6's statements. -/
import Derived.Test.YtbcpcopapbgcdaaGreatDoorSW27
import Derived.Test.YtbcpcopapbgcdaaGreatDoorSW13
import Derived.ProofKit
import Derived.OpenShut
import Derived.ChangeSame
import Derived.Test.YtbcpcopapbgcdaaGreatDoorSW36
import Derived.Test.YtbcpcopapbgcdaaGreatDoorSW33
import Derived.Test.YtbcpcopapbgcdaaGreatDoorSW23
import Derived.StillTailTactics
/- Part: OpenSnap. -/
namespace Go.Proofs.YtbcpcopapbgcdaaGreatDoor.M
open Go.RowKit

set_option maxRecDepth 20000 in
open Go.ChangeShapes Go.WideShapes Go.ChangeAt in
theorem snap_in2 {H : Type} {enc : TypeId × Value → H} {W : World} {base : Nat} {v : Value} {d : DataW H} {p : List MemPlace} (h : DataW.Trod enc Tryz.prog W 0 (fun _ => true) true 53 v d p)
    (hk : Value.okWide Tryz.prog W .any base 53 v) : ∃ (x : Sn) (cv bv : Value), v = snAgg x cv bv ∧ RepB W (fun b => b < W.heap.size) x.conf cv ∧ RepB W (fun b => b < W.heap.size) x.body bv ∧ x.conf.length + x.body.length ≤ Rows.uptoBulk d ∧ ∀ n : Nat, (DataW.weights Tryz.prog 53 d).all (· ≤ n) = true → x.conf.length ≤ n ∧ x.body.length ≤ n := by
  unfold Value.okWide at hk
  rw [Tryz.underlying53] at hk
  obtain ⟨cs, rfl, hs, -⟩ := hk
  rw [show Tryz.prog.cellsOf 53 = 4 from by kernel_rfl] at hs
  obtain ⟨fuel, hf⟩ := h
  obtain ⟨l⟩ := cs
  match l, hs with
  | [c0, c1, c2, c3], _ =>
    obtain ⟨n, rfl⟩ : ∃ n, fuel = n + 1 := by
      cases fuel with
      | zero => simp [DataW.trod] at hf
      | succ n => exact ⟨n, rfl⟩
    obtain ⟨xs, m, hm, hx, hl, hxs, hg⟩ := DataW.trod_struct Tryz.underlying53 hf
    obtain rfl : n = m := by omega
    have h0 := hg 0 _ rfl
    have h1 := hg 1 _ rfl
    have h2 := hg 2 _ rfl
    match xs, hxs with
    | [y0, y1, y2], _ =>
      replace h0 : DataW.trod enc Tryz.prog W 0 (fun _ => true) true n 32 (List.take (Tryz.prog.cellsOf 32) (List.drop 0 [c0, c1, c2, c3])) = some y0 := h0
      rw [show Tryz.prog.cellsOf 32 = 2 from by kernel_rfl] at h0
      replace h0 : DataW.trod enc Tryz.prog W 0 (fun _ => true) true n 32 [c0, c1] = some y0 := h0
      replace h1 : DataW.trod enc Tryz.prog W 0 (fun _ => true) true n 34 (List.take (Tryz.prog.cellsOf 34) (List.drop 2 [c0, c1, c2, c3])) = some y1 := h1
      rw [show Tryz.prog.cellsOf 34 = 1 from by kernel_rfl] at h1
      replace h1 : DataW.trod enc Tryz.prog W 0 (fun _ => true) true n 34 [c2] = some y1 := h1
      replace h2 : DataW.trod enc Tryz.prog W 0 (fun _ => true) true n 34 (List.take (Tryz.prog.cellsOf 34) (List.drop 3 [c0, c1, c2, c3])) = some y2 := h2
      rw [show Tryz.prog.cellsOf 34 = 1 from by kernel_rfl] at h2
      replace h2 : DataW.trod enc Tryz.prog W 0 (fun _ => true) true n 34 [c3] = some y2 := h2
      obtain ⟨L1, v1, hv1, hB1, hn1, hm1⟩ := bytes_of_trod2 h1
      obtain ⟨L2, v2, hv2, hB2, hn2, hm2⟩ := bytes_of_trod2 h2
      obtain ⟨z0, z1, k, -, -, g0, g1⟩ := trod_struct2 Tryz.underlying32 h0
      have hc : Tryz.prog.cellsOf 3 = 1 := by kernel_rfl
      simp only [hc, List.drop_zero, List.take_succ_cons, List.take_zero, List.drop_succ_cons] at g0 g1
      obtain ⟨i, e0, -, -⟩ := DataW.trod_int Tryz.underlying3 g0
      obtain ⟨t, e1, -, -⟩ := DataW.trod_int Tryz.underlying3 g1
      cases e0; cases e1; cases hv1; cases hv2
      refine ⟨⟨i, t, L1, L2⟩, _, _, rfl, hB1, hB2, ?_, ?_⟩
      · cases hx
        simp only [List.map_cons, List.map_nil, Rows.uptoBulk, Rows.uptoBulkAll]
        omega
      · intro n hn
        cases hx
        unfold DataW.weights at hn
        rw [Tryz.underlying53] at hn
        simp only [List.map_cons, List.map_nil, DataW.weightsEach, List.all_append, Bool.and_eq_true] at hn
        exact ⟨hm1 n hn.2.1, hm2 n hn.2.2.1⟩

set_option maxRecDepth 20000 in
theorem snap_in {H : Type} {enc : TypeId × Value → H} {W : World} {base : Nat} {v : Value} {d : DataW H} {p : List MemPlace} (h : DataW.Trod enc Tryz.prog W 0 (fun _ => true) true 53 v d p)
    (hk : Value.okWide Tryz.prog W .any base 53 v) : ∃ (x : Sn) (cv bv : Value), v = snAgg x cv bv ∧ RepB W (fun b => b < W.heap.size) x.conf cv ∧ RepB W (fun b => b < W.heap.size) x.body bv ∧ x.conf.length + x.body.length ≤ Rows.uptoBulk d := by
  obtain ⟨x, cv, bv, h1, h2, h3, h4, -⟩ := snap_in2 h hk
  exact ⟨x, cv, bv, h1, h2, h3, h4⟩
end Go.Proofs.YtbcpcopapbgcdaaGreatDoor.M

/- Part: OpenActs6. -/
namespace Go.Proofs.YtbcpcopapbgcdaaGreatDoor.M
open Go.RowKit Go.ChangeShapes Go.WideShapes Go.ChangeAt

variable {H : Type} {enc : TypeId × Value → H} {w : World}

/-- A slice of elements of K cells, read one by one. -/
theorem sliceK {n len cap K : Nat} (hK : 0 < K) {a : Addr} {α : Type} {R : Nat → List Value → α → Prop} {e : TypeId} (hce : Tryz.prog.cellsOf e = K) {elems rest : List (DataW H × List MemPlace)} (hl : len ≤ cap) (hel : elems.length = len) (h0 : cap ≠ 0)
    (hrd : ∀ i, i < len → (w.cells? 0 (a.add (i * Tryz.prog.cellsOf e)) (Tryz.prog.cellsOf e)).bind (DataW.trod enc Tryz.prog w 0 (fun _ => true) true n e) = elems[i]?)
    (hrl : rest.length = cap - len) (hsp : ∀ j, j < cap - len → (w.cells? 0 (a.add ((len + j) * Tryz.prog.cellsOf e)) (Tryz.prog.cellsOf e)).bind (DataW.trod enc Tryz.prog w 0 (fun _ => true) true n e) = rest[j]?)
    (hR : ∀ i cs y, i < len → elems[i]? = some y → DataW.trod enc Tryz.prog w 0 (fun _ => true) true n e cs = some y → ∃ d, R i cs d) :
    ∃ b off, a = ⟨b, off, none⟩ ∧ b < w.heap.size ∧ ∃ l : List α, l.length = len ∧ ∀ (i : Nat) (hi : i < l.length), ∃ cs, (∀ j, j < K → w.cell? ⟨b, off + i * K + j, none⟩ = cs[j]?) ∧ R i cs l[i] := by
  rw [hce] at hrd hsp
  have hat : ∃ cs', w.cells? 0 (a.add (0 * K)) K = some cs' := by
    by_cases h1 : len = 0
    · have h2 := hsp 0 (by omega)
      rw [List.getElem?_eq_getElem (by omega)] at h2
      obtain ⟨cs', h3, _⟩ := Option.bind_eq_some_iff.1 h2
      exact ⟨cs', by rw [h1] at h3; exact h3⟩
    · have h2 := hrd 0 (by omega)
      rw [List.getElem?_eq_getElem (by omega)] at h2
      obtain ⟨cs', h3, _⟩ := Option.bind_eq_some_iff.1 h2
      exact ⟨cs', h3⟩
  obtain ⟨cs', hat⟩ := hat
  obtain ⟨_, hcl, hcg⟩ := World.cells?_some hat
  have hc0 := hcg 0 (by omega)
  rw [List.getElem?_eq_getElem (by omega), show (a.add (0 * K)).add 0 = a by rw [Nat.zero_mul]; rfl] at hc0
  obtain ⟨hb, hs⟩ := lt_of_cell hc0
  obtain ⟨b, off, sp⟩ := a
  replace hb : b < w.heap.size := hb
  replace hs : sp = none := hs
  subst hs
  obtain ⟨l, hll, hl2⟩ := list_of (R := fun i d => ∃ cs, (∀ j, j < K → w.cell? ⟨b, off + i * K + j, none⟩ = cs[j]?) ∧ R i cs d) len fun i hi => by
    have h2 := hrd i hi
    rw [List.getElem?_eq_getElem (by omega)] at h2
    obtain ⟨cs', h3, h4⟩ := Option.bind_eq_some_iff.1 h2
    obtain ⟨_, h6, h5⟩ := World.cells?_some h3
    rw [addr_add] at h5
    obtain ⟨d, hd⟩ := hR i cs' _ hi (List.getElem?_eq_getElem (by omega)) h4
    refine ⟨d, cs', fun j hj => ?_, hd⟩
    have g := h5 j hj
    rw [addr_add] at g
    exact g
  exact ⟨b, off, rfl, hb, l, hll, hl2⟩

/-- What each element weighs. -/
theorem weights_each {e : TypeId} {n : Nat} : ∀ {ds : List (DataW H)}, (DataW.weightsAll Tryz.prog e ds).all (· ≤ n) = true → ∀ d ∈ ds, (DataW.weights Tryz.prog e d).all (· ≤ n) = true
  | [], _, d, hd => by cases hd
  | x :: r, h, d, hd => by
    simp only [DataW.weightsAll, List.all_append, Bool.and_eq_true] at h
    rcases List.mem_cons.1 hd with rfl | hd
    · exact h.1
    · exact weights_each h.2 d hd

set_option maxRecDepth 20000 in
theorem ints_of_trod2 {n : Nat} {cs : List Value} {x : DataW H × List MemPlace} (h : DataW.trod enc Tryz.prog w 0 (fun _ => true) true (n + 1) 22 cs = some x) :
    ∃ l v, cs = [v] ∧ RepI w (fun b => b < w.heap.size) l v ∧ ∀ m : Nat, (DataW.weights Tryz.prog 22 x.1).all (· ≤ m) = true → l.length ≤ m := by
  rcases DataW.trod_slice Tryz.underlying22 h with ⟨rfl, -⟩ | ⟨a, len, cap, elems, rest, m, hm, rfl, hx, -, hl, hc, hel, hrd, hsp, -⟩
  · exact ⟨[], _, rfl, .inl ⟨rfl, Bare.nil⟩, fun _ _ => Nat.zero_le _⟩
  · obtain rfl : n = m := by omega
    unfold maxLen at hc
    obtain ⟨hrl, hsp⟩ := hsp rfl
    by_cases h0 : cap = 0
    · obtain rfl : len = 0 := by omega
      exact ⟨[], _, rfl, .inl ⟨rfl, Bare.at hc⟩, fun _ _ => Nat.zero_le _⟩
    · obtain ⟨b, off, rfl, hb, l, hll, hR⟩ := slice1 (w := w) (enc := enc) (t := 22) (R := fun _ v (z : Int) => v = .int .i64 z ∧ -9223372036854775808 ≤ z ∧ z ≤ 9223372036854775807) (show Tryz.prog.cellsOf 3 = 1 from by kernel_rfl) hl hel h0 hrd hrl hsp fun i v y hi hy ht => by
        obtain ⟨z, hz, -, hw⟩ := DataW.trod_int Tryz.underlying3 ht
        cases hz
        have := bounds_i64 hw
        exact ⟨z, rfl, this.1, this.2⟩
      subst hll
      refine ⟨l, _, rfl, .inr ⟨b, off, cap, rfl, hb, hl, hc, fun i hi => ?_⟩, ?_⟩
      · obtain ⟨v, h1, h2, h3⟩ := hR i hi
        rw [h1, h2]
        exact ⟨rfl, h3⟩
      · intro m hm
        rw [hx] at hm
        unfold DataW.weights at hm
        rw [Tryz.underlying22] at hm
        simp only [List.all_cons, Bool.and_eq_true, decide_eq_true_eq] at hm
        have h1 := hm.1
        rw [show Tryz.prog.bytesOf 3 = 8 by kernel_rfl] at h1
        simp only [List.length_map] at h1
        omega

set_option maxRecDepth 20000 in
open Go.ChangeShapes Go.WideShapes Go.ChangeAt in
theorem snap_of_trod {fuel : Nat} {c0 c1 c2 c3 : Value} {x : DataW H × List MemPlace} (hf : DataW.trod enc Tryz.prog w 0 (fun _ => true) true fuel 53 [c0, c1, c2, c3] = some x) :
    ∃ s : Sn, c0 = .int .i64 s.idx ∧ c1 = .int .i64 s.term ∧ RepB w (fun b => b < w.heap.size) s.conf c2 ∧ RepB w (fun b => b < w.heap.size) s.body c3 ∧ Int64 s.idx ∧ Int64 s.term ∧ ∀ n : Nat, (DataW.weights Tryz.prog 53 x.1).all (· ≤ n) = true → s.conf.length ≤ n ∧ s.body.length ≤ n := by
  obtain ⟨n, rfl⟩ : ∃ n, fuel = n + 1 := by
    cases fuel with
    | zero => simp [DataW.trod] at hf
    | succ n => exact ⟨n, rfl⟩
  obtain ⟨xs, m, hm, hx, hl, hxs, hg⟩ := DataW.trod_struct Tryz.underlying53 hf
  obtain rfl : n = m := by omega
  have h0 := hg 0 _ rfl
  have h1 := hg 1 _ rfl
  have h2 := hg 2 _ rfl
  match xs, hxs with
  | [y0, y1, y2], _ =>
    replace h0 : DataW.trod enc Tryz.prog w 0 (fun _ => true) true n 32 (List.take (Tryz.prog.cellsOf 32) (List.drop 0 [c0, c1, c2, c3])) = some y0 := h0
    rw [show Tryz.prog.cellsOf 32 = 2 from by kernel_rfl] at h0
    replace h0 : DataW.trod enc Tryz.prog w 0 (fun _ => true) true n 32 [c0, c1] = some y0 := h0
    replace h1 : DataW.trod enc Tryz.prog w 0 (fun _ => true) true n 34 (List.take (Tryz.prog.cellsOf 34) (List.drop 2 [c0, c1, c2, c3])) = some y1 := h1
    rw [show Tryz.prog.cellsOf 34 = 1 from by kernel_rfl] at h1
    replace h1 : DataW.trod enc Tryz.prog w 0 (fun _ => true) true n 34 [c2] = some y1 := h1
    replace h2 : DataW.trod enc Tryz.prog w 0 (fun _ => true) true n 34 (List.take (Tryz.prog.cellsOf 34) (List.drop 3 [c0, c1, c2, c3])) = some y2 := h2
    rw [show Tryz.prog.cellsOf 34 = 1 from by kernel_rfl] at h2
    replace h2 : DataW.trod enc Tryz.prog w 0 (fun _ => true) true n 34 [c3] = some y2 := h2
    obtain ⟨L1, v1, hv1, hB1, hn1, hm1⟩ := bytes_of_trod2 h1
    obtain ⟨L2, v2, hv2, hB2, hn2, hm2⟩ := bytes_of_trod2 h2
    obtain ⟨z0, z1, k, -, -, g0, g1⟩ := trod_struct2 Tryz.underlying32 h0
    have hc : Tryz.prog.cellsOf 3 = 1 := by kernel_rfl
    simp only [hc, List.drop_zero, List.take_succ_cons, List.take_zero, List.drop_succ_cons] at g0 g1
    obtain ⟨i, e0, -, b0⟩ := DataW.trod_int Tryz.underlying3 g0
    obtain ⟨t, e1, -, b1⟩ := DataW.trod_int Tryz.underlying3 g1
    cases e0; cases e1; cases hv1; cases hv2
    refine ⟨⟨i, t, L1, L2⟩, rfl, rfl, hB1, hB2, bounds_i64 b0, bounds_i64 b1, fun n hn => ?_⟩
    rw [hx] at hn
    unfold DataW.weights at hn
    rw [Tryz.underlying53] at hn
    simp only [List.map_cons, List.map_nil, DataW.weightsEach, List.all_append, Bool.and_eq_true] at hn
    exact ⟨hm1 n hn.2.1, hm2 n hn.2.2.1⟩

/-- An act. -/
structure A6 where
  kind : Int
  x : Sn
  n : Int
  keep : List Int
  nm : ByteArray
  b : List UInt8

/-- An act's nine cells. -/
def RepA6 (w : World) (F : Nat → Prop) (a : A6) (cs : List Value) : Prop :=
  ∃ x3 x4 x6 x8, cs = [.int .i64 a.kind, .int .i64 a.x.idx, .int .i64 a.x.term, x3, x4, .int .i64 a.n, x6, .string a.nm, x8] ∧ RepB w F a.x.conf x3 ∧ RepB w F a.x.body x4 ∧ RepI w F a.keep x6 ∧ RepB w F a.b x8 ∧
    Int64 a.kind ∧ Int64 a.x.idx ∧ Int64 a.x.term ∧ Int64 a.n ∧ a.nm.size ≤ 9223372036854775807

theorem RepA6.same {w w' : World} {F G : Nat → Prop} (hF : ∀ k, F k → G k) (hw : ∀ k, F k → w'.heap[k]? = w.heap[k]?) {a : A6} {cs : List Value} (h : RepA6 w F a cs) : RepA6 w' G a cs := by
  obtain ⟨x3, x4, x6, x8, h0, h1, h2, h3, h4, h5⟩ := h
  exact ⟨x3, x4, x6, x8, h0, h1.same hF hw, h2.same hF hw, h3.same hF hw, h4.same hF hw, h5⟩

/-- A slice of acts. -/
def RepAs6 (w : World) (F : Nat → Prop) (l : List A6) (v : Value) : Prop :=
  (l = [] ∧ Bare v) ∨ ∃ b off c, v = .slice (some ⟨b, off, none⟩) l.length c ∧ F b ∧ l.length ≤ c ∧ c ≤ 9223372036854775807 ∧
    ∀ (i : Nat) (h : i < l.length), ∃ cs, (∀ j, j < 9 → w.cell? ⟨b, off + i * 9 + j, none⟩ = cs[j]?) ∧ RepA6 w F l[i] cs

theorem RepAs6.same {w w' : World} {F G : Nat → Prop} (hF : ∀ k, F k → G k) (hw : ∀ k, F k → w'.heap[k]? = w.heap[k]?) {l : List A6} {v : Value} (h : RepAs6 w F l v) : RepAs6 w' G l v := by
  rcases h with h | ⟨b, off, c, hv, hb, hl, hm, hc⟩
  · exact .inl h
  · refine .inr ⟨b, off, c, hv, hF b hb, hl, hm, fun i hi => ?_⟩
    obtain ⟨cs, h1, hr⟩ := hc i hi
    exact ⟨cs, fun j hj => (World.cell?_of_block (a := ⟨b, off + i * 9 + j, none⟩) (hw b hb)).trans (h1 j hj), hr.same hF hw⟩

theorem RepAs6.slice {w : World} {F : Nat → Prop} {l : List A6} {v : Value} (h : RepAs6 w F l v) : ∃ a c, v = .slice a l.length c ∧ l.length ≤ 9223372036854775807 := by
  rcases h with ⟨rfl, a, c, rfl, _⟩ | ⟨b, off, c, rfl, _, h1, h2, _⟩
  · exact ⟨a, c, rfl, by simp⟩
  · exact ⟨_, c, rfl, by omega⟩

theorem RepAs6.elem {w : World} {F : Nat → Prop} {l : List A6} {a : Option Addr} {n c : Nat} (h : RepAs6 w F l (.slice a n c)) (i : Nat) (hi : i < l.length) :
    ∃ b off, a = some ⟨b, off, none⟩ ∧ F b ∧ ∃ cs, (∀ j, j < 9 → w.cell? ⟨b, off + i * 9 + j, none⟩ = cs[j]?) ∧ RepA6 w F l[i] cs := by
  rcases h with ⟨h, _⟩ | ⟨b, off, c', h, hb, _, _, hc⟩
  · rw [h] at hi; simp at hi
  · cases h
    exact ⟨b, off, rfl, hb, hc i hi⟩

/-- How many bytes and numbers an act has. -/
def a6size (a : A6) : Nat := a.x.conf.length + a.x.body.length + a.b.length + a.keep.length

set_option maxRecDepth 20000 in
theorem act6_of_trod {n : Nat} {cs : List Value} {x : DataW H × List MemPlace} (h : DataW.trod enc Tryz.prog w 0 (fun _ => true) true (n + 1) 71 cs = some x) :
    ∃ a, RepA6 w (fun b => b < w.heap.size) a cs ∧ ∀ m : Nat, (DataW.weights Tryz.prog 71 x.1).all (· ≤ m) = true → a6size a ≤ 4 * m := by
  obtain ⟨xs, m, hm, hx, hl, hxs, hf⟩ := DataW.trod_struct Tryz.underlying71 h
  obtain rfl : n = m := by omega
  rw [show Tryz.prog.cellsOf 71 = 9 from by kernel_rfl] at hl
  obtain ⟨x0, x1, x2, x3, x4, x5, x6, x7, x8, rfl⟩ : ∃ x0 x1 x2 x3 x4 x5 x6 x7 x8, cs = [x0, x1, x2, x3, x4, x5, x6, x7, x8] := by
    match cs, hl with
    | [x0, x1, x2, x3, x4, x5, x6, x7, x8], _ => exact ⟨x0, x1, x2, x3, x4, x5, x6, x7, x8, rfl⟩
  have h0 := hf 0 _ rfl
  have h1 := hf 1 _ rfl
  have h2 := hf 2 _ rfl
  have h3 := hf 3 _ rfl
  have h4 := hf 4 _ rfl
  have h5 := hf 5 _ rfl
  match xs, hxs with
  | [y0, y1, y2, y3, y4, y5], _ =>
    replace h0 : DataW.trod enc Tryz.prog w 0 (fun _ => true) true n 3 (List.take (Tryz.prog.cellsOf 3) (List.drop 0 [x0, x1, x2, x3, x4, x5, x6, x7, x8])) = some y0 := h0
    rw [show Tryz.prog.cellsOf 3 = 1 from by kernel_rfl] at h0
    replace h0 : DataW.trod enc Tryz.prog w 0 (fun _ => true) true n 3 [x0] = some y0 := h0
    replace h1 : DataW.trod enc Tryz.prog w 0 (fun _ => true) true n 53 (List.take (Tryz.prog.cellsOf 53) (List.drop 1 [x0, x1, x2, x3, x4, x5, x6, x7, x8])) = some y1 := h1
    rw [show Tryz.prog.cellsOf 53 = 4 from by kernel_rfl] at h1
    replace h1 : DataW.trod enc Tryz.prog w 0 (fun _ => true) true n 53 [x1, x2, x3, x4] = some y1 := h1
    replace h2 : DataW.trod enc Tryz.prog w 0 (fun _ => true) true n 3 (List.take (Tryz.prog.cellsOf 3) (List.drop 5 [x0, x1, x2, x3, x4, x5, x6, x7, x8])) = some y2 := h2
    rw [show Tryz.prog.cellsOf 3 = 1 from by kernel_rfl] at h2
    replace h2 : DataW.trod enc Tryz.prog w 0 (fun _ => true) true n 3 [x5] = some y2 := h2
    replace h3 : DataW.trod enc Tryz.prog w 0 (fun _ => true) true n 22 (List.take (Tryz.prog.cellsOf 22) (List.drop 6 [x0, x1, x2, x3, x4, x5, x6, x7, x8])) = some y3 := h3
    rw [show Tryz.prog.cellsOf 22 = 1 from by kernel_rfl] at h3
    replace h3 : DataW.trod enc Tryz.prog w 0 (fun _ => true) true n 22 [x6] = some y3 := h3
    replace h4 : DataW.trod enc Tryz.prog w 0 (fun _ => true) true n 9 (List.take (Tryz.prog.cellsOf 9) (List.drop 7 [x0, x1, x2, x3, x4, x5, x6, x7, x8])) = some y4 := h4
    rw [show Tryz.prog.cellsOf 9 = 1 from by kernel_rfl] at h4
    replace h4 : DataW.trod enc Tryz.prog w 0 (fun _ => true) true n 9 [x7] = some y4 := h4
    replace h5 : DataW.trod enc Tryz.prog w 0 (fun _ => true) true n 34 (List.take (Tryz.prog.cellsOf 34) (List.drop 8 [x0, x1, x2, x3, x4, x5, x6, x7, x8])) = some y5 := h5
    rw [show Tryz.prog.cellsOf 34 = 1 from by kernel_rfl] at h5
    replace h5 : DataW.trod enc Tryz.prog w 0 (fun _ => true) true n 34 [x8] = some y5 := h5
    obtain ⟨z, hz, hzx, hw⟩ := DataW.trod_int Tryz.underlying3 h0
    obtain ⟨z2, hz2, hz2x, hw2⟩ := DataW.trod_int Tryz.underlying3 h2
    obtain ⟨s4, hs4, hs4x, hs4z⟩ := DataW.trod_string Tryz.underlying9 h4
    cases hz
    cases hz2
    cases hs4
    cases n with
    | zero => simp [DataW.trod] at h3
    | succ n =>
      obtain ⟨s, e1, e2, hr1, hr2, hi1, hi2, hn1⟩ := snap_of_trod h1
      obtain ⟨lk, v3, hv3, hr3, hn3⟩ := ints_of_trod2 h3
      obtain ⟨lb, v5, hv5, hr5, -, hn5⟩ := bytes_of_trod2 h5
      cases hv3
      cases hv5
      subst e1 e2
      have b0 := bounds_i64 hw
      have b2 := bounds_i64 hw2
      refine ⟨⟨z, s, z2, lk, s4, lb⟩, ⟨_, _, _, _, rfl, hr1, hr2, hr3, hr5, b0, hi1, hi2, b2, by unfold maxLen at hs4z; exact hs4z⟩, fun m hm => ?_⟩
      rw [hx] at hm
      unfold DataW.weights at hm
      rw [Tryz.underlying71] at hm
      simp only [List.map_cons, List.map_nil, DataW.weightsEach, List.all_append, Bool.and_eq_true] at hm
      have k1 := hn1 m hm.2.1
      have k3 := hn3 m hm.2.2.2.1
      have k5 := hn5 m hm.2.2.2.2.2.1
      unfold a6size
      simp only
      omega

set_option maxRecDepth 20000 in
theorem acts6_of_trod {n : Nat} {cs : List Value} {x : DataW H × List MemPlace} (h : DataW.trod enc Tryz.prog w 0 (fun _ => true) true (n + 1) 62 cs = some x) :
    ∃ l v, cs = [v] ∧ RepAs6 w (fun b => b < w.heap.size) l v ∧ ∀ m : Nat, (DataW.weights Tryz.prog 62 x.1).all (· ≤ m) = true → ∀ a ∈ l, a6size a ≤ 4 * m := by
  rcases DataW.trod_slice Tryz.underlying62 h with ⟨rfl, -⟩ | ⟨a, len, cap, elems, rest, m, hm, rfl, hx, -, hl, hc, hel, hrd, hsp, -⟩
  · exact ⟨[], _, rfl, .inl ⟨rfl, Bare.nil⟩, fun m hm a ha => by simp at ha⟩
  · obtain rfl : n = m := by omega
    unfold maxLen at hc
    obtain ⟨hrl, hsp⟩ := hsp rfl
    by_cases h0 : cap = 0
    · obtain rfl : len = 0 := by omega
      exact ⟨[], _, rfl, .inl ⟨rfl, Bare.at hc⟩, fun m hm a ha => by simp at ha⟩
    · obtain ⟨b, off, rfl, hb, l, hll, hR⟩ := sliceK (w := w) (enc := enc) (K := 9) (by omega) (R := fun i cs (a : A6) => RepA6 w (fun b => b < w.heap.size) a cs ∧ ∀ e, elems[i]? = some e → ∀ m : Nat, (DataW.weights Tryz.prog 71 e.1).all (· ≤ m) = true → a6size a ≤ 4 * m) (show Tryz.prog.cellsOf 71 = 9 from by kernel_rfl) hl hel h0 hrd hrl hsp fun i cs y hi hy ht => by
        cases n with
        | zero => simp [DataW.trod] at ht
        | succ n =>
          obtain ⟨a, ha, hn⟩ := act6_of_trod ht
          exact ⟨a, ha, fun e he => by rw [hy] at he; cases he; exact hn⟩
      subst hll
      refine ⟨l, _, rfl, .inr ⟨b, off, cap, rfl, hb, hl, hc, fun i hi => ?_⟩, fun m hm a ha => ?_⟩
      · obtain ⟨cs, h1, h2, -⟩ := hR i hi
        exact ⟨cs, h1, h2⟩
      · obtain ⟨i, hi, rfl⟩ := List.mem_iff_getElem.1 ha
        have h3 : i < elems.length := by omega
        obtain ⟨cs, -, -, h4⟩ := hR i hi
        rw [hx] at hm
        unfold DataW.weights at hm
        rw [Tryz.underlying62] at hm
        simp only [List.all_cons, List.all_append, Bool.and_eq_true] at hm
        exact h4 _ (List.getElem?_eq_getElem h3) m (weights_each hm.2.1 _ (List.mem_map.2 ⟨elems[i], List.getElem_mem _, rfl⟩))

set_option maxRecDepth 20000 in
theorem acts6_in {W : World} {base : Nat} {v : Value} {d : DataW H} {p : List MemPlace} (h : DataW.Trod enc Tryz.prog W 0 (fun _ => true) true 62 v d p) (hk : Value.okWide Tryz.prog W .any base 62 v) :
    ∃ l, RepAs6 W (fun b => b < W.heap.size) l v ∧ ∀ m : Nat, (DataW.weights Tryz.prog 62 d).all (· ≤ m) = true → ∀ a ∈ l, a6size a ≤ 4 * m := by
  obtain ⟨a, n, c, rfl⟩ := okWide_slice Tryz.underlying62 hk
  obtain ⟨fuel, hf⟩ := h
  cases fuel with
  | zero => simp [DataW.trod] at hf
  | succ fuel =>
    obtain ⟨l, v, hv, hr⟩ := acts6_of_trod hf
    refine ⟨l, ?_⟩
    have e : [Value.slice a n c] = [v] := hv
    cases e
    exact hr
end Go.Proofs.YtbcpcopapbgcdaaGreatDoor.M

/- Part: ShDisks. -/
namespace Go.Proofs.YtbcpcopapbgcdaaGreatDoor.M
open Go.RowKit Go.Maps
open D (Fl Dk)

set_option maxRecDepth 40000 in
set_option maxHeartbeats 6400000 in
theorem Disks6_any (d : Dk) (X Y : Nat → Prop) (gd gr : Nat) (w : World) (hd : PDskIn w X gd d) (hq : DskIn w Y gr d) (hw : Well d) (hu : D.used d.fs ≤ 1099511627776) :
    Calls Tryz.prog 42 #[.pointer (some ⟨gd, 0, none⟩), .pointer (some ⟨gr, 0, none⟩)] w fun e w' => e = .returned (.bool true) ∧ Below w.heap.size w w' := by
  obtain ⟨⟨vl, fv, hat⟩, hY⟩ := hq
  obtain ⟨cc, ⟨-, c1, -, -⟩, -, hz, -, -⟩ := hat.cells
  obtain ⟨la, lc, rfl⟩ := owned_slice hat.row
  have hlen := hat.len.2
  have hfl : fv.length ≤ 4096 := by rw [← hlen]; exact hw.1.1.1
  have HLEN := Lib.hid hlen
  have HD := Lib.hid hd
  have HAT := Lib.hid hat
  have HY := Lib.hid hY
  have HW := Lib.hid hw
  have HU := Lib.hid hu
  have HC1 := Lib.hid c1
  have HZ := Lib.hid hz
  clear hd hat hY hw hu hlen c1
  go_enter Tryz.func42, Tryz.ntmps42
  go_wp2_with fail
  refine (Names_any d X gd w HD.out HW.out.1.2.1 (by rw [HLEN.out]; omega)).mono ?_
  rintro e w1 ⟨v, rfl, hb1, hrow1⟩
  rw [HLEN.out] at hrow1
  obtain ⟨na, nc, rfl⟩ := owned_slice hrow1
  have HROW := Lib.hid hrow1
  have HB1 := Lib.hid hb1
  have c1 : w1.cell? ⟨gr, 1, none⟩ = some (.slice la fv.length lc) := (World.cell?_of_block (a := ⟨gr, 1, none⟩) (hb1.block gr hz)).trans HC1.out
  have hz1 : gr < w1.heap.size := Nat.lt_of_lt_of_le hz hb1.size
  have hd1 : PDskIn w1 X gd d := HD.out.next hb1
  have hq1 : DkAt w1 Y gr d (.slice la fv.length lc) fv := HAT.out.same (fun _ h => h) fun k hk => hb1.block k (HY.out k hk)
  have HD1 := Lib.hid hd1
  have HQ1 := Lib.hid hq1
  clear hb1 hrow1 hd1 hq1 hz
  go_wp2_with fail
  go_loopw [6, 7, 8] (fun i _ _ wr => ∃ k : Nat, i = .int .i64 (k : Int) ∧ k ≤ fv.length ∧ Below w1.heap.size w1 wr) (fun i _ _ _ => fv.length - (intOf i).toNat)
  case atStart => exact ⟨0, rfl, Nat.zero_le _, Below.refl _ _⟩
  case round =>
    obtain ⟨k, rfl, hkg, hbr⟩ := hrel
    have HBR := Lib.hid hbr
    have HDR : Hid (PDskIn wr X gd d) := Lib.hid (HD1.out.next hbr)
    have hzr := hbr.size
    clear hbr
    by_cases hlt : k < fv.length
    · have hkk : (k : Int) < (fv.length : Int) := by omega
      obtain ⟨gn, hna, hgn1, hgn2, hcn⟩ := row_cell HROW.out k hlt
      subst hna
      have hlt2 : k < d.fs.length := by rw [HLEN.out]; exact hlt
      have hge := HQ1.out.get k hlt hlt2
      obtain ⟨f, hfe⟩ : ∃ f, f = fv[k].1 := ⟨_, rfl⟩
      rw [List.getElem?_map, List.getElem?_eq_getElem hlt2, ← hge, ← hfe] at hcn
      have hfm : f ∈ d.fs := by rw [hfe, hge]; exact List.getElem_mem _
      have hcn2 : wr.cell? ⟨gn, k, none⟩ = some (.string f.nm) := (World.cell?_of_block (a := ⟨gn, k, none⟩) (HBR.out.block gn hgn2)).trans hcn
      have hgq : gn < wr.heap.size := by omega
      have HNS := Lib.hid (HW.out.names f hfm)
      have hfu : f.b.length ≤ 1099511627776 := by have := D.used_mem hfm; have := HU.out; omega
      have HBO : Hid (bytesOf d.fs f.nm = f.b ∧ D.isThere d.fs f.nm = true ∧ safeOf d.fs f.nm = f.safe) := Lib.hid (by
        unfold bytesOf safeOf
        rw [find_some HW.out.1.2.1 hfm]
        exact ⟨rfl, D.isThere_mem.2 ⟨f, hfm, rfl⟩, rfl⟩)
      have HCN := Lib.hid hcn
      have HFE := Lib.hid hfe
      clear hge hfe hfm hcn
      go_wp2_with fail
      refine (PRead_any d X gd f.nm wr HDR.out HW.out.1.2.1 HNS.out (by have := HU.out; omega)).mono ?_
      rintro e w3 ⟨v, rfl, hown⟩
      rw [HBO.out.1] at hown
      rw [HBO.out.2.1]
      have hst1 := fun m => run_string (P := Tryz.prog) (w := w3.drewN m) (hown.rep.same (fun _ h => h) fun _ _ => rfl) 34 5 9 Tryz.underlying34 Tryz.underlying5 Tryz.underlying9
      obtain ⟨va, vc, rfl⟩ := hown.slice
      have hb3 : Below w1.heap.size w1 w3 := HBR.out.trans (hown.1.mono hzr)
      have HB3 := Lib.hid hb3
      have HD3 : Hid (PDskIn w3 X gd d) := Lib.hid (HD1.out.next hb3)
      have hq3 : DkAt w3 Y gr d (.slice la fv.length lc) fv := HQ1.out.same (fun _ h => h) fun j hj => hb3.block j (Nat.lt_of_lt_of_le (HY.out j hj) HB1.out.size)
      have hcn3 : w3.cell? ⟨gn, k, none⟩ = some (.string f.nm) := (World.cell?_of_block (a := ⟨gn, k, none⟩) (hb3.block gn hgn2)).trans HCN.out
      have hz3 := hb3.size
      have hgn3 : gn < w3.heap.size := by omega
      obtain ⟨cc3, ⟨-, c1, -, -⟩, -, hgr3, -, -⟩ := hq3.cells
      obtain ⟨ga, c, hv, -, -, hga3, -, -, e0, e1, e2, -⟩ := hq3.file k hlt
      cases hv
      obtain ⟨ba, bc, hbv, hbl⟩ := hq3.bytes k hlt
      have hrep2 : RepB w3 (fun b => b < w3.heap.size) f.b (.slice ba f.b.length bc) := by
        have h1 := hq3.each fv[k] (List.getElem_mem hlt)
        rw [hbv, ← HFE.out] at h1
        exact (RepB.of_own h1).weak fun _ h => h.2
      have hst2 := fun m => run_string (P := Tryz.prog) (w := w3.drewN m) (hrep2.same (fun _ h => h) fun _ _ => rfl) 34 5 9 Tryz.underlying34 Tryz.underlying5 Tryz.underlying9
      rw [hbv, ← HFE.out] at e1
      rw [← HFE.out] at e0 e2
      obtain ⟨sq, hsq⟩ : ∃ sq, sq = strOf f.b := ⟨_, rfl⟩
      simp only [← hsq] at hst1 hst2
      obtain ⟨n, hn⟩ : ∃ n, n = f.b.length := ⟨_, rfl⟩
      have HOWN : Hid (Own wr f.b (.slice va n vc) w3) := Lib.hid (by rw [hn]; exact hown)
      have HN := Lib.hid hn
      rw [← hn] at e1 hfu ⊢
      simp only [← hn] at hst1 hst2
      have HSF : Hid (∀ m, Calls Tryz.prog 102 #[.pointer (some ⟨gd, 0, none⟩), .string f.nm] (w3.drewN m) fun e w' => e = .returned (.int .i64 (f.safe : Int)) ∧ w' = w3.drewN m) := Lib.hid fun m => (PSafe_any d X gd f.nm (w3.drewN m) (HD3.out.1.same (fun _ h => h) fun _ _ => rfl) HW.out.1.2.1 HNS.out).mono fun e w' h => ⟨by rw [h.1, HBO.out.2.2], h.2.symm⟩
      clear hown hb3 hq3 hsq hbv hbl hrep2 hn hcn2
      go_wp2_with fail
      go_quiet ((go_at_call 102; exact Calls.quiet_of_same (HSF.out _)))
      clear hst1 hst2 e0 e1 e2 c1 hcn3
      have HBN : Hid (∀ m, Below w1.heap.size w1 (w3.drewN m)) := Lib.hid fun m => ⟨HB3.out.os, HB3.out.tape, HB3.out.output, HB3.out.size, HB3.out.block⟩
      clear hgr3 hga3 hgn3 hz3 cc3
      go_wp2_with fail
      go_roundw
      case rel => exact ⟨k + 1, by go_num, by omega, HBN.out _⟩
      case measure => simp [intOf]; omega
    · have hkk : ¬ (k : Int) < (fv.length : Int) := by omega
      have HE : Hid (Below w.heap.size w wr) := Lib.hid (HB1.out.trans (HBR.out.mono HB1.out.size))
      go_wp2_with fail
      go_ret
      exact ⟨rfl, HE.out⟩
end Go.Proofs.YtbcpcopapbgcdaaGreatDoor.M
