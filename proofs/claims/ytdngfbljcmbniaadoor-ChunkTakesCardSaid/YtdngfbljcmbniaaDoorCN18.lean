/- A heap in a law's own memory. The law package's examples. A law's heap that is told one piece after another. Pieces given in any order, some twice: plain. A law's heap beside a row of bools that the law turns. The document's mark that is right; the law's two pieces that are the same. A row of pieces whose bytes a law turns. The document's heap in a law's own memory. -/
import Derived.Test.YtdngfbljcmbniaaDoorCN16
import Derived.Test.YtdngfbljcmbniaaDoorCN17
import Derived.Lib.SlBytesConst
/- Part: ChP. -/
namespace Go.Proofs.YtdngfbljcmbniaaDoor.M
open Go.RowKit Go.Maps

/-- Made behind the world w0, in blocks from z on. -/
structure HP (w0 : World) (z : Nat) (X : Nat → Prop) (g : Nat) (most : Int) (L : List Pc) (wr : World) : Prop where
  below : Below w0.heap.size w0 wr
  base : w0.heap.size ≤ z
  own : z ≤ g ∧ ∀ k, X k → z ≤ k
  heap : HeapIn wr X g most L
  inv : HInv most L

theorem HP.next {w0 wr w' : World} {z : Nat} {X : Nat → Prop} {g : Nat} {most : Int} {L : List Pc} (h : HP w0 z X g most L wr) (hb : Below wr.heap.size wr w') : HP w0 z X g most L w' :=
  ⟨h.below.trans (hb.mono h.below.size), h.base, h.own, h.heap.next hb, h.inv⟩

/-- Pieces that are told to a call: they lie below z, or in one block that is no heap's. -/
def Told7 (z : Nat) (X : Nat → Prop) (g nb : Nat) (wr : World) (k : Nat) : Prop := (k < z ∨ k = nb) ∧ k < wr.heap.size

/-- What a Take in a law leaves. -/
def TkPost (w0 : World) (z : Nat) (X : Nat → Prop) (g : Nat) (most : Int) (L ps : List Pc) (wr : World) (e : Ending) (w' : World) : Prop :=
  e = .returned (.tuple #[.bool (wholeB (takesE most L ps).2), .int .i64 (takesE most L ps).1]) ∧ (∀ k, k < z → w'.heap[k]? = wr.heap[k]?) ∧ wr.heap.size ≤ w'.heap.size ∧ (∃ Y, HP w0 z Y g most (takesE most L ps).2 w' ∧ ∀ j, Y j → X j ∨ wr.heap.size ≤ j) ∧ Only (fun k => X k ∨ k = g) wr w'

theorem HP.Take {w0 wr : World} {z : Nat} {X : Nat → Prop} {g : Nat} {most : Int} {L : List Pc} (h : HP w0 z X g most L wr) (hT : Hid (Tab w0)) (hTz : Hid (Tz w0)) (ps : List Pc) (F : Nat → Prop) (v : Value) (hv : RepPs wr F ps v) (hF : ∀ k, F k → k < wr.heap.size ∧ ¬ X k ∧ k ≠ g)
    (hb : ∀ p ∈ ps, p.b.length ≤ 1000 ∧ p.tot ≤ 1000 ∧ 0 ≤ p.sum) (hLn : L.length + ps.length ≤ 100000) : Calls Tryd.prog 11 #[.pointer (some ⟨g, 0, none⟩), v] wr (TkPost w0 z X g most L ps wr) := by
  have h0 : 0 < w0.heap.size := hT.out.1
  have h1 := hTz.out.1
  have hbs := h.base
  have hx : ∀ q, q < w0.heap.size → ¬ X q := fun q hq hx => by have := h.own.2 q hx; omega
  refine (Take_any X g most L ps F v wr h.heap h.inv hb hLn hv hF (Lib.hid (hT.out.next h.below)) (Lib.hid (hTz.out.next h.below)) ⟨hx _ h0, by have := h.own.1; omega, hx _ h1, by have := h.own.1; omega⟩).mono ?_
  rintro e w' ⟨rfl, ho, Y, hh, hY⟩
  refine ⟨rfl, fun k hk => ho.block k (by have := h.own.1; have := h.heap.lt; omega) (by rintro (hx | hx); have := h.own.2 k hx; omega; have := h.own.1; omega), ho.size, ⟨Y, ⟨?_, h.base, ⟨h.own.1, fun k hk => ?_⟩, hh, takes_inv _ _ h.inv⟩, hY⟩, ho⟩
  · exact below_only h.below ho fun k hk => by
      rcases hk with hk | hk
      · have := h.own.2 k hk; omega
      · have := h.own.1; omega
  · rcases hY k hk with hx | hx
    · exact h.own.2 k hx
    · have := h.own.1; have := h.heap.lt; omega

theorem HP.new {w0 w' : World} {z g : Nat} {most : Int} (hb : Below w0.heap.size w0 w') (hz : w0.heap.size ≤ z) (hg : z ≤ g) (h : HeapIn w' (fun _ => False) g most []) : HP w0 z (fun _ => False) g most [] w' :=
  ⟨hb, hz, ⟨hg, fun k hk => hk.elim⟩, h, HInv.nil _⟩

/-- One element of a row of pieces. -/
theorem PcRow.elem {base : Nat} {pv : List (Pc × Value)} {a : Option Addr} {n c : Nat} {W : World} (h : PcRow base pv (.slice a n c) W) (i : Nat) (hi : i < pv.length) :
    ∃ g, a = some ⟨g, 0, none⟩ ∧ n = pv.length ∧ n ≤ c ∧ c ≤ 9223372036854775807 ∧ base ≤ g ∧ g < W.heap.size ∧ (∀ t, t < 6 → W.cell? ⟨g, i * 6 + t, none⟩ = (pvV pv[i])[t]?) ∧ RepB W (fun j => base ≤ j ∧ j < W.heap.size) pv[i].1.b pv[i].2 := by
  have hr := h.row
  rcases h.row.2 with ⟨h1, h2⟩ | ⟨g, cap, cur, hv, hg, hcur, hn, hm, hs, ht⟩
  · omega
  · unfold maxLen at hm
    rw [hv] at hr
    cases hv
    refine ⟨g, rfl, rfl, hn, hm, hg, lt_of_heap hcur, fun t ht => ?_, (h.rep _ (List.getElem_mem hi)).weak fun j hj => ⟨hj.1, hj.2.1⟩⟩
    rw [hr.cellAt (g := g) (cap := _) _ (by omega), flat6_get _ i hi t ht]

/-- .. of the pieces of a cut. -/
theorem cut_elem {base : Nat} {pv : List (Pc × Value)} {a : Option Addr} {n c : Nat} {W : World} {i t : Int} {b : List UInt8} {size : Nat} (h : PcRow base pv (.slice a n c) W) (hm : pv.map (·.1) = cutPcs i t b size) (k : Nat) (hk : k < cutN b.length size) :
    ∃ g ua uc, a = some ⟨g, 0, none⟩ ∧ n = cutN b.length size ∧ n ≤ c ∧ c ≤ 9223372036854775807 ∧ base ≤ g ∧ g < W.heap.size ∧ (W.cell? ⟨g, k * 6, none⟩ = some (.int .i64 i) ∧ W.cell? ⟨g, k * 6 + 1, none⟩ = some (.int .i64 t) ∧ W.cell? ⟨g, k * 6 + 2, none⟩ = some (.int .u32 (C.sumOf b : Int)) ∧ W.cell? ⟨g, k * 6 + 3, none⟩ = some (.int .i64 (b.length : Int)) ∧ W.cell? ⟨g, k * 6 + 4, none⟩ = some (.int .i64 ((k * size : Nat) : Int)) ∧ W.cell? ⟨g, k * 6 + 5, none⟩ = some (.slice ua (cutPc i t b size k).b.length uc)) ∧
      RepB W (fun j => base ≤ j ∧ j < W.heap.size) (cutPc i t b size k).b (.slice ua (cutPc i t b size k).b.length uc) := by
  have hl : pv.length = cutN b.length size := by have := congrArg List.length hm; simpa [cutPcs] using this
  obtain ⟨g, h1, h2, h3, h4, h5, h6, h7, h8⟩ := h.elem k (by omega)
  have hp : pv[k].1 = cutPc i t b size k := by
    have := congrArg (fun l => l[k]?) hm
    simp only [List.getElem?_map] at this
    rw [List.getElem?_eq_getElem (by omega), List.getElem?_eq_getElem (by rw [cutPcs_length]; exact hk), cutPcs_get] at this
    simpa using this
  rw [hp] at h8
  obtain ⟨ua, uc, hu, -⟩ := h8.slice
  rw [hu] at h8
  have hc : pvV pv[k] = pcV (cutPc i t b size k) (.slice ua (cutPc i t b size k).b.length uc) := by unfold pvV; rw [hp, hu]
  rw [hc] at h7
  exact ⟨g, ua, uc, h1, by rw [h2, hl], h3, h4, h5, h6, ⟨h7 0 (by omega), h7 1 (by omega), h7 2 (by omega), h7 3 (by omega), h7 4 (by omega), h7 5 (by omega)⟩, h8⟩

/-- One piece in a block of its own. -/
theorem one_piece {W : World} {F : Nat → Prop} {p : Pc} {a : Option Addr} {n c : Nat} (hu : RepB W F p.b (.slice a n c)) (hF : ∀ k, F k → k < W.heap.size) : RepPs (W.alloc (.cells #[.int .i64 p.idx, .int .i64 p.term, .int .u32 p.sum, .int .i64 p.tot, .int .i64 p.pos, .slice a n c] 35)) (fun k => F k ∨ k = W.heap.size) [p] (.slice (some ⟨W.heap.size, 0, none⟩) 1 1) :=
  .inr ⟨W.heap.size, 0, 1, rfl, .inr rfl, Nat.le_refl _, by omega, fun i hi => by
    obtain rfl : i = 0 := by simpa using hi
    refine ⟨.slice a n c, fun t ht => ?_, hu.same (fun k hk => .inl hk) fun k hk => Below.heap_alloc _ _ _ (hF k hk)⟩
    rw [cell_of_row _ _ _ _ _ _ (heap_new W _ _ rfl)]
    simp [pcV]⟩

/-- .. and two. -/
theorem two_pieces {W : World} {F : Nat → Prop} {p q : Pc} {a a' : Option Addr} {n c n' c' : Nat} (hu : RepB W F p.b (.slice a n c)) (hu' : RepB W F q.b (.slice a' n' c')) (hF : ∀ k, F k → k < W.heap.size) : RepPs (W.alloc (.cells #[.int .i64 p.idx, .int .i64 p.term, .int .u32 p.sum, .int .i64 p.tot, .int .i64 p.pos, .slice a n c, .int .i64 q.idx, .int .i64 q.term, .int .u32 q.sum, .int .i64 q.tot, .int .i64 q.pos, .slice a' n' c'] 35)) (fun k => F k ∨ k = W.heap.size) [p, q] (.slice (some ⟨W.heap.size, 0, none⟩) 2 2) :=
  .inr ⟨W.heap.size, 0, 2, rfl, .inr rfl, Nat.le_refl _, by omega, fun i hi => by
    have hi : i < 2 := hi
    rcases (show i = 0 ∨ i = 1 by omega) with rfl | rfl
    · refine ⟨.slice a n c, fun t ht => ?_, hu.same (fun k hk => .inl hk) fun k hk => Below.heap_alloc _ _ _ (hF k hk)⟩
      rw [cell_of_row _ _ _ _ _ _ (heap_new W _ _ rfl)]
      rcases (show t = 0 ∨ t = 1 ∨ t = 2 ∨ t = 3 ∨ t = 4 ∨ t = 5 by omega) with rfl | rfl | rfl | rfl | rfl | rfl <;> rfl
    · refine ⟨.slice a' n' c', fun t ht => ?_, hu'.same (fun k hk => .inl hk) fun k hk => Below.heap_alloc _ _ _ (hF k hk)⟩
      rw [cell_of_row _ _ _ _ _ _ (heap_new W _ _ rfl)]
      rcases (show t = 0 ∨ t = 1 ∨ t = 2 ∨ t = 3 ∨ t = 4 ∨ t = 5 by omega) with rfl | rfl | rfl | rfl | rfl | rfl <;> rfl⟩

theorem cutPc_fine {i t : Int} {b : List UInt8} {size k : Nat} (hb : b.length ≤ 1000) : (cutPc i t b size k).b.length ≤ 1000 ∧ (cutPc i t b size k).tot ≤ 1000 ∧ 0 ≤ (cutPc i t b size k).sum := by
  refine ⟨?_, ?_, ?_⟩
  · rw [cutPc_len]; omega
  · show (b.length : Int) ≤ 1000; omega
  · show 0 ≤ (C.sumOf b : Int); omega
end Go.Proofs.YtdngfbljcmbniaaDoor.M

/- Part: ChQ. -/
namespace Go.Proofs.YtdngfbljcmbniaaDoor.M
open Go.RowKit Go.Maps

def abcde : List UInt8 := [97, 98, 99, 100, 101]
def exP (k : Nat) : Pc := cutPc 5 1 abcde 2 k

theorem ex_cut : cutN abcde.length 2 = 3 := by decide
theorem ex_take1 : takesE 100 [] [exP 2, exP 0] = (0, [exP 2, exP 0]) := by
  have hof : ∀ L, (∀ p ∈ L, ∃ k, k < 3 ∧ p = exP k) → OfCut 5 1 abcde 2 L := fun L h p hp => by obtain ⟨k, hk, e⟩ := h p hp; exact ⟨k, by rw [ex_cut]; exact hk, e⟩
  have h1 : takeE 100 [] (exP 2) = (0, [exP 2]) := take_cut (by decide) (by omega) (by rw [ex_cut]; omega) (by decide) (hof [] fun p hp => by cases hp)
  have h2 : takeE 100 [exP 2] (exP 0) = (0, [exP 2, exP 0]) := take_cut (by decide) (by omega) (by rw [ex_cut]; omega) (by decide) (hof [exP 2] fun p hp => ⟨2, by omega, List.mem_singleton.1 hp⟩)
  unfold takesE
  rw [h1]
  simp only [if_true]
  unfold takesE
  rw [h2]
  simp only [if_true]
  rfl
theorem ex_take2 : takesE 100 [exP 2, exP 0] [exP 1] = (0, [exP 2, exP 0, exP 1]) := by
  have h1 : takeE 100 [exP 2, exP 0] (exP 1) = (0, [exP 2, exP 0, exP 1]) := take_cut (by decide) (by omega) (by rw [ex_cut]; omega) (by decide) (fun p hp => by
    rcases List.mem_cons.1 hp with h | h
    · exact ⟨2, by rw [ex_cut]; omega, h⟩
    · exact ⟨0, by rw [ex_cut]; omega, List.mem_singleton.1 h⟩)
  unfold takesE
  rw [h1]
  simp only [if_true]
  rfl
theorem ex_whole1 : wholeB [exP 2, exP 0] = false := by decide +kernel
theorem ex_miss : missing [exP 2, exP 0] = 2 := by decide +kernel
theorem ex_whole2 : wholeB [exP 2, exP 0, exP 1] = true := by decide +kernel
theorem ex_wl : wholeL [exP 2, exP 0, exP 1] = abcde := by decide +kernel
theorem ex_b1 : (exP 1).b = [99, 100] := by decide +kernel

set_option maxRecDepth 100000 in
set_option maxHeartbeats 8000000 in
theorem awake7_any (w : World) (hT : Hid (Tab w)) (hTz : Hid (Tz w)) : Calls Tryd.prog 5 #[] w fun e w' => e = .returned (.bool true) ∧ Below w.heap.size w w' := by
  obtain ⟨W1, hW1⟩ : ∃ W1, W1 = w.alloc (.cells #[.int .u8 97, .int .u8 98, .int .u8 99, .int .u8 100, .int .u8 101] 5 (5, 6)) := ⟨_, rfl⟩
  have hb1 : Below w.heap.size w W1 := by rw [hW1]; exact below_alloc _ _
  have hv1 : RepB W1 (fun k => k = w.heap.size) abcde (.slice (some ⟨w.heap.size, 0, none⟩) 5 5) := by rw [hW1]; exact RepB.new (L := abcde) rfl (by decide)
  have HW1 := Lib.hid hW1
  have HB1 := Lib.hid hb1
  have HCU := Lib.hid (Cut_any 5 1 abcde 2 _ _ W1 (by decide) (by omega) hv1 (fun k hk => by rw [hk, hW1]; simp) (Lib.hid (hT.out.next hb1)))
  unfold mkAgg at HCU
  have kc := fun (w : World) (C : Array Value) (n c : Nat) => Lib.run_convert_bytes_const (P := Tryd.prog) w 24 5 C n c Tryd.underlying24 Tryd.underlying5
  clear hW1 hb1 hv1
  go_enter Tryd.func5, Tryd.ntmps5
  go_wp2_with fail
  rw [← HW1.out]
  refine (HCU.out).mono ?_
  rintro e w2 ⟨hb2, hp2⟩
  rw [if_pos (by decide)] at hp2
  obtain ⟨pv, v, rfl, hrow2, hmap2⟩ := hp2
  have hbw2 := HB1.out.trans (hb2.mono HB1.out.size)
  have hz1 := HB1.out.size
  have hz2 : w.heap.size + 1 ≤ w2.heap.size := Nat.le_trans (by rw [HW1.out]; simp) hb2.size
  have HB2 := Lib.hid hbw2
  have hpl : pv.length = 3 := by have := congrArg List.length hmap2; simpa [cutPcs_length, ex_cut] using this
  obtain ⟨va, vc, rfl⟩ := hrow2.slice
  rw [hpl] at hrow2 ⊢
  obtain ⟨g2, ua2, uc2, rfl, -, hc1, hc2, hgb, hgs, ⟨c20, c21, c22, c23, c24, c25⟩, hr2⟩ := cut_elem hrow2 hmap2 2 (by rw [show (Int.toNat 2) = 2 from rfl, ex_cut]; omega)
  obtain ⟨_, ua1, uc1, e1, -, -, -, -, -, ⟨c10, c11, c12, c13, c14, c15⟩, hr1⟩ := cut_elem hrow2 hmap2 1 (by rw [show (Int.toNat 2) = 2 from rfl, ex_cut]; omega)
  obtain rfl : g2 = _ := by simpa using e1
  obtain ⟨_, ua0, uc0, e0, -, -, -, -, -, ⟨c00, c01, c02, c03, c04, c05⟩, hr0⟩ := cut_elem hrow2 hmap2 0 (by rw [show (Int.toNat 2) = 2 from rfl, ex_cut]; omega)
  obtain rfl : g2 = _ := by simpa using e0
  have old2 : ∀ {o : Nat} {u : Value} {W' : World}, (∀ k, k < w2.heap.size → W'.heap[k]? = w2.heap[k]?) → w2.cell? ⟨g2, o, none⟩ = some u → W'.cell? ⟨g2, o, none⟩ = some u := fun {o u W'} hb hv => (World.cell?_of_block (a := ⟨g2, o, none⟩) (hb g2 hgs)).trans hv
  have hq2 : RepB w2 (fun j => j < w2.heap.size) (exP 2).b (.slice ua2 1 uc2) := hr2.weak fun j hj => hj.2
  have hq1 : RepB w2 (fun j => j < w2.heap.size) (exP 1).b (.slice ua1 2 uc1) := hr1.weak fun j hj => hj.2
  have hq0 : RepB w2 (fun j => j < w2.heap.size) (exP 0).b (.slice ua0 2 uc0) := hr0.weak fun j hj => hj.2
  obtain ⟨sm, hsm⟩ : ∃ sm, sm = C.sumOf abcde := ⟨_, rfl⟩
  rw [← hsm] at c02 c12 c22
  replace c20 : w2.cell? ⟨g2, 12, none⟩ = some (.int .i64 5) := c20
  replace c21 : w2.cell? ⟨g2, 13, none⟩ = some (.int .i64 1) := c21
  replace c22 : w2.cell? ⟨g2, 14, none⟩ = some (.int .u32 (sm : Int)) := c22
  replace c23 : w2.cell? ⟨g2, 15, none⟩ = some (.int .i64 5) := c23
  replace c24 : w2.cell? ⟨g2, 16, none⟩ = some (.int .i64 4) := c24
  replace c25 : w2.cell? ⟨g2, 17, none⟩ = some (.slice ua2 1 uc2) := c25
  replace c10 : w2.cell? ⟨g2, 6, none⟩ = some (.int .i64 5) := c10
  replace c11 : w2.cell? ⟨g2, 7, none⟩ = some (.int .i64 1) := c11
  replace c12 : w2.cell? ⟨g2, 8, none⟩ = some (.int .u32 (sm : Int)) := c12
  replace c13 : w2.cell? ⟨g2, 9, none⟩ = some (.int .i64 5) := c13
  replace c14 : w2.cell? ⟨g2, 10, none⟩ = some (.int .i64 2) := c14
  replace c15 : w2.cell? ⟨g2, 11, none⟩ = some (.slice ua1 2 uc1) := c15
  replace c00 : w2.cell? ⟨g2, 0, none⟩ = some (.int .i64 5) := c00
  replace c01 : w2.cell? ⟨g2, 1, none⟩ = some (.int .i64 1) := c01
  replace c02 : w2.cell? ⟨g2, 2, none⟩ = some (.int .u32 (sm : Int)) := c02
  replace c03 : w2.cell? ⟨g2, 3, none⟩ = some (.int .i64 5) := c03
  replace c04 : w2.cell? ⟨g2, 4, none⟩ = some (.int .i64 0) := c04
  replace c05 : w2.cell? ⟨g2, 5, none⟩ = some (.slice ua0 2 uc0) := c05
  have HSM := Lib.hid hsm
  have HGS := Lib.hid hgs
  have HQ0 := Lib.hid hq0
  have HQ1 := Lib.hid hq1
  have HQ2 := Lib.hid hq2
  clear e0 e1 hb2 hbw2 hrow2 hmap2 HCU hr0 hr1 hr2 hq0 hq1 hq2 hsm hgs hgb hpl hz1
  go_wp2_with fail
  refine (New_any 100 w2).mono ?_
  rintro e w3 ⟨gh, rfl, hb3, hg3, hh3⟩
  have HH3 : Hid (HP w w2.heap.size (fun _ => False) gh 100 [] w3) := Lib.hid (HP.new (HB2.out.trans (hb3.mono HB2.out.size)) HB2.out.size hg3 hh3)
  have HB3 := Lib.hid hb3
  have HG3 := Lib.hid hg3
  have d24 : w3.cell? ⟨g2, 16, none⟩ = some (.int .i64 4) := old2 (fun k hk => hb3.block k hk) c24
  have d15 : w3.cell? ⟨g2, 11, none⟩ = some (.slice ua1 2 uc1) := old2 (fun k hk => hb3.block k hk) c15
  have d14 : w3.cell? ⟨g2, 10, none⟩ = some (.int .i64 2) := old2 (fun k hk => hb3.block k hk) c14
  have hst := run_string (P := Tryd.prog) (HQ1.out.same (w' := w3) (fun _ h => h) fun k hk => HB3.out.block k hk) 24 5 9 Tryd.underlying24 Tryd.underlying5 Tryd.underlying9
  rw [ex_b1] at hst
  have hs2 : ((strOf [99, 100]).toList == [99, 100]) = true := by decide +kernel
  replace hst : (convert 24 9 (.slice ua1 2 uc1)).run Tryd.prog w3 = .ok (.string (strOf [99, 100])) w3 := hst
  clear hb3 hg3 hh3
  go_wp2_with fail
  have keep : ∀ {o : Nat} {u : Value}, w2.cell? ⟨g2, o, none⟩ = some u → ∀ W', Below w2.heap.size w2 W' → W'.cell? ⟨g2, o, none⟩ = some u := fun {o u} hv W' hb => old2 (fun k hk => hb.block k hk) hv
  have r20 := keep c20
  have r21 := keep c21
  have r22 := keep c22
  have r23 := keep c23
  have r24 := keep c24
  have r25 := keep c25
  have r10 := keep c10
  have r11 := keep c11
  have r12 := keep c12
  have r13 := keep c13
  have r14 := keep c14
  have r15 := keep c15
  have r00 := keep c00
  have r01 := keep c01
  have r02 := keep c02
  have r03 := keep c03
  have r04 := keep c04
  have r05 := keep c05
  have hS : Below w2.heap.size w2 w3.drew := HB3.out.drew
  clear keep d24 d15 d14 hst hs2
  refine wp_region_held (S := fun w' => Below w2.heap.size w2 w') (by kernel_rfl) ?_
  refine H_take (i := 0) (v := ?_) rfl (by as_aux_lemma => kernel_rfl) (by as_aux_lemma => kernel_rfl) (by as_aux_lemma => kernel_rfl) (fun _ _ _ h => h) (by rfl) hS ?_ ?_
  rotate_left
  · intro w' hw'; go_simp; with_reducible rfl
  go_simp
  refine H_take (i := 1) (v := ?_) rfl (by as_aux_lemma => kernel_rfl) (by as_aux_lemma => kernel_rfl) (by as_aux_lemma => kernel_rfl) (fun _ _ _ h => h) (by rfl) hS ?_ ?_
  rotate_left
  · intro w' hw'; go_simp; with_reducible rfl
  go_simp
  refine H_take (i := 2) (v := ?_) rfl (by as_aux_lemma => kernel_rfl) (by as_aux_lemma => kernel_rfl) (by as_aux_lemma => kernel_rfl) (fun _ _ _ h => h) (by rfl) hS ?_ ?_
  rotate_left
  · intro w' hw'; go_simp; with_reducible rfl
  go_simp
  refine H_take (i := 3) (v := ?_) rfl (by as_aux_lemma => kernel_rfl) (by as_aux_lemma => kernel_rfl) (by as_aux_lemma => kernel_rfl) (fun _ _ _ h => h) (by rfl) hS ?_ ?_
  rotate_left
  · intro w' hw'; go_simp; with_reducible rfl
  go_simp
  refine H_take (i := 4) (v := ?_) rfl (by as_aux_lemma => kernel_rfl) (by as_aux_lemma => kernel_rfl) (by as_aux_lemma => kernel_rfl) (fun _ _ _ h => h) (by rfl) hS ?_ ?_
  rotate_left
  · intro w' hw'; go_simp; with_reducible rfl
  go_simp
  refine H_take (i := 5) (v := ?_) rfl (by as_aux_lemma => kernel_rfl) (by as_aux_lemma => kernel_rfl) (by as_aux_lemma => kernel_rfl) (fun _ _ _ h => h) (by rfl) hS ?_ ?_
  rotate_left
  · intro w' hw'; go_simp; with_reducible rfl
  go_simp
  refine H_take (i := 6) (v := ?_) rfl (by as_aux_lemma => kernel_rfl) (by as_aux_lemma => kernel_rfl) (by as_aux_lemma => kernel_rfl) (fun _ _ _ h => h) (by rfl) hS ?_ ?_
  rotate_left
  · intro w' hw'; go_simp; with_reducible rfl
  go_simp
  refine H_one (i := 7) (by as_aux_lemma => kernel_rfl) rfl (by rfl) ?_
  go_simp
  have hS4' : Below w3.heap.size w3 (w3.alloc (.cells #[.int .i64 5, .int .i64 1, .int .u32 (sm : Int), .int .i64 5, .int .i64 4, .slice ua2 1 uc2, .int .i64 5, .int .i64 1, .int .u32 (sm : Int), .int .i64 5, .int .i64 0, .slice ua0 2 uc0] 35)).drew := (below_alloc _ _).drew
  have hS4 := HB3.out.trans (hS4'.mono HB3.out.size)
  refine ⟨hS4, ?_⟩
  have hps : RepPs (w3.alloc (.cells #[.int .i64 5, .int .i64 1, .int .u32 (sm : Int), .int .i64 5, .int .i64 4, .slice ua2 1 uc2, .int .i64 5, .int .i64 1, .int .u32 (sm : Int), .int .i64 5, .int .i64 0, .slice ua0 2 uc0] 35)).drew (fun k => k < w2.heap.size ∨ k = w3.heap.size) [exP 2, exP 0] (.slice (some ⟨w3.heap.size, 0, none⟩) 2 2) := by
    have h1 := two_pieces (W := w3) (F := fun k => k < w2.heap.size) (p := exP 2) (q := exP 0) (a := ua2) (n := 1) (c := uc2) (a' := ua0) (n' := 2) (c' := uc0) (HQ2.out.same (w' := w3) (fun _ h => h) fun k hk => HB3.out.block k hk) (HQ0.out.same (w' := w3) (fun _ h => h) fun k hk => HB3.out.block k hk) (fun k hk => Nat.lt_of_lt_of_le hk HB3.out.size)
    rw [HSM.out]
    exact h1.same (fun _ h => h) fun _ _ => rfl
  obtain ⟨W4, hW4⟩ : ∃ W4, W4 = (w3.alloc (.cells #[.int .i64 5, .int .i64 1, .int .u32 (sm : Int), .int .i64 5, .int .i64 4, .slice ua2 1 uc2, .int .i64 5, .int .i64 1, .int .u32 (sm : Int), .int .i64 5, .int .i64 0, .slice ua0 2 uc0] 35)).drew := ⟨_, rfl⟩
  have hz4 : W4.heap.size = w3.heap.size + 1 := by rw [hW4]; simp
  rw [← hW4] at hS4 hS4' hps ⊢
  have hgl := HH3.out.heap.lt
  have HTK := Lib.hid ((HH3.out.next hS4').Take hT hTz [exP 2, exP 0] _ _ hps (fun k hk => by
    refine ⟨by rcases hk with h | h <;> have := HB3.out.size <;> omega, fun h => h, ?_⟩
    rcases hk with h | h
    · have := HG3.out; omega
    · omega) (fun q hq => by
      have : q.b.length ≤ 1000 ∧ q.tot ≤ 1000 ∧ 0 ≤ q.sum := by
        rcases List.mem_cons.1 hq with rfl | hq
        · exact cutPc_fine (by decide)
        · rw [List.mem_singleton.1 hq]; exact cutPc_fine (by decide)
      exact this) (by decide))
  have HG4 := Lib.hid (show gh < W4.heap.size by omega)
  have HZ4 := Lib.hid hz4
  clear hW4 hz4 hps hgl hS4'
  refine H_one (i := 8) (by as_aux_lemma => kernel_rfl) rfl (by rfl) ?_
  go_simp
  refine (HTK.out).mono ?_
  rintro e w5 ⟨rfl, h51, h52, ⟨Y, h53, h54⟩, h55⟩
  rw [ex_take1, ex_whole1] at *
  dsimp only at h53
  have hS5 : Below w2.heap.size w2 w5 := below_only hS4 h55 fun k hk => by
    rcases hk with hk | hk
    · exact hk.elim
    · have := HG3.out; omega
  refine ⟨hS5, ?_⟩
  have HH5 := Lib.hid h53
  have HY5 : Hid (∀ k, Y k → w3.heap.size ≤ k) := Lib.hid fun k hk => by
    rcases h54 k hk with h | h
    · exact h.elim
    · have := HZ4.out; omega
  clear h51 h52 h53 h54 h55 HTK
  go_simp
  refine H_take (i := 9) (v := ?_) rfl (by as_aux_lemma => kernel_rfl) (by as_aux_lemma => kernel_rfl) (by as_aux_lemma => kernel_rfl) (fun _ _ _ h => h) (by rfl) hS5 ?_ ?_
  rotate_left
  · intro w' hw'; go_simp; with_reducible rfl
  go_simp
  refine H_take (i := 10) (v := ?_) rfl (by as_aux_lemma => kernel_rfl) (by as_aux_lemma => kernel_rfl) (by as_aux_lemma => kernel_rfl) (fun _ _ _ h => h) (by rfl) hS5 ?_ ?_
  rotate_left
  · intro w' hw'; go_simp; with_reducible rfl
  go_simp
  refine H_take (i := 11) (v := ?_) rfl (by as_aux_lemma => kernel_rfl) (by as_aux_lemma => kernel_rfl) (by as_aux_lemma => kernel_rfl) (fun _ _ _ h => h) (by rfl) hS5 ?_ ?_
  rotate_left
  · intro w' hw'; go_simp; with_reducible rfl
  go_simp
  refine H_take (i := 12) (v := ?_) rfl (by as_aux_lemma => kernel_rfl) (by as_aux_lemma => kernel_rfl) (by as_aux_lemma => kernel_rfl) (fun _ _ _ h => h) (by rfl) hS5 ?_ ?_
  rotate_left
  · intro w' hw'; go_simp; with_reducible rfl
  go_simp
  refine H_take (i := 13) (v := ?_) rfl (by as_aux_lemma => kernel_rfl) (by as_aux_lemma => kernel_rfl) (by as_aux_lemma => kernel_rfl) (fun _ _ _ h => h) (by rfl) hS5 ?_ ?_
  rotate_left
  · intro w' hw'; go_simp; with_reducible rfl
  go_simp
  refine wpAnyH_done (by as_aux_lemma => kernel_rfl) ?_ _
  have HS5 := Lib.hid hS5
  have s10 := r10 w5 hS5
  have s11 := r11 w5 hS5
  have s12 := r12 w5 hS5
  have s13 := r13 w5 hS5
  have s14 := r14 w5 hS5
  have s15 := r15 w5 hS5
  clear hS hS4 hS5 r00 r01 r02 r03 r04 r05 r20 r21 r22 r23 r24 r25 r10 r11 r12 r13 r14 r15 old2
  have HMI := Lib.hid (Missing_any _ _ _ _ _ HH5.out.heap.1)
  rw [ex_miss] at HMI
  go_wp2_with fail
  refine (HMI.out).mono ?_
  rintro e w6 ⟨rfl, rfl⟩
  go_wp2_with fail
  have hps : RepPs (w5.alloc (.cells #[.int .i64 5, .int .i64 1, .int .u32 (sm : Int), .int .i64 5, .int .i64 2, .slice ua1 2 uc1] 35)) (fun k => k < w2.heap.size ∨ k = w5.heap.size) [exP 1] (.slice (some ⟨w5.heap.size, 0, none⟩) 1 1) := by
    rw [HSM.out]
    exact one_piece (W := w5) (F := fun k => k < w2.heap.size) (p := exP 1) (a := ua1) (n := 2) (c := uc1) (HQ1.out.same (w' := w5) (fun _ h => h) fun k hk => HS5.out.block k hk) (fun k hk => Nat.lt_of_lt_of_le hk HS5.out.size)
  have hS6 : Below w5.heap.size w5 (w5.alloc (.cells #[.int .i64 5, .int .i64 1, .int .u32 (sm : Int), .int .i64 5, .int .i64 2, .slice ua1 2 uc1] 35)) := below_alloc _ _
  obtain ⟨W6, hW6⟩ : ∃ W6, W6 = w5.alloc (.cells #[.int .i64 5, .int .i64 1, .int .u32 (sm : Int), .int .i64 5, .int .i64 2, .slice ua1 2 uc1] 35) := ⟨_, rfl⟩
  have hz6 : W6.heap.size = w5.heap.size + 1 := by rw [hW6]; simp
  rw [← hW6] at hS6 hps ⊢
  have hgl := HH5.out.heap.lt
  have HTK := Lib.hid ((HH5.out.next hS6).Take hT hTz [exP 1] _ _ hps (fun k hk => by
    have hyl := HH5.out.heap.2.2
    have := HG3.out
    have := HS5.out.size
    have := HB3.out.size
    refine ⟨by rcases hk with h | h <;> omega, fun h9 => ?_, ?_⟩
    · have := HY5.out k h9
      have := hyl k h9
      rcases hk with h | h <;> omega
    · rcases hk with h | h <;> omega) (fun q hq => by rw [List.mem_singleton.1 hq]; exact cutPc_fine (by decide)) (by decide))
  clear hW6 hps hgl s10 s11 s12 s13 s14 s15
  refine (HTK.out).mono ?_
  rintro e w7 ⟨rfl, h71, h72, ⟨Z, h73, -⟩, h75⟩
  rw [ex_take2, ex_whole2] at *
  dsimp only at h73
  have HH7 := Lib.hid h73
  have HW := Lib.hid (Whole_any _ _ _ _ _ HH7.out.heap.1 (show totN [exP 2, exP 0, exP 1] ≤ 100000 by decide))
  clear hz6 h71 h72 h73 h75 HTK hS6
  go_wp2_with fail
  refine (HW.out).mono ?_
  rintro e w8 ⟨a, c, rfl, hb8, hr8⟩
  rw [ex_wl, ex_whole2] at *
  rw [show abcde.length = 5 from rfl] at hr8 ⊢
  have hst := run_string (P := Tryd.prog) hr8 24 5 9 Tryd.underlying24 Tryd.underlying5 Tryd.underlying9
  have hs2 : ((strOf [97, 98, 99, 100, 101]).toList == [97, 98, 99, 100, 101]) = true := by decide +kernel
  replace hst : (convert 24 9 (.slice a 5 c)).run Tryd.prog w8 = .ok (.string (strOf [97, 98, 99, 100, 101])) w8 := hst
  have HB8 := Lib.hid hb8
  clear hr8 hb8
  go_wp2_with fail
  go_ret
  exact ⟨rfl, HH7.out.below.trans (HB8.out.mono HH7.out.below.size)⟩
end Go.Proofs.YtdngfbljcmbniaaDoor.M

/- Part: ChR. -/
namespace Go.Proofs.YtdngfbljcmbniaaDoor.M
open Go.RowKit Go.Maps

theorem takesE_one (most : Int) (L : List Pc) (p : Pc) : takesE most L [p] = takeE most L p := by
  unfold takesE
  split
  · next h => unfold takesE; exact Prod.ext h.symm rfl
  · rfl

/-- A heap behind a world in which all pieces lie that are told to it. -/
structure NH (w0 W2 : World) (gh : Nat) (most : Int) (L : List Pc) (wr : World) : Prop where
  old : Below W2.heap.size W2 wr
  heap : ∃ X, HP w0 W2.heap.size X gh most L wr

theorem NH.next {w0 W2 wr w' : World} {gh : Nat} {most : Int} {L : List Pc} (h : NH w0 W2 gh most L wr) (hb : Below wr.heap.size wr w') : NH w0 W2 gh most L w' := by
  obtain ⟨X, hx⟩ := h.heap
  exact ⟨h.old.trans (hb.mono h.old.size), X, hx.next hb⟩

theorem NH.takes {w0 W2 wr W : World} {gh : Nat} {most : Int} {L : List Pc} (h : NH w0 W2 gh most L wr) (hT : Hid (Tab w0)) (hTz : Hid (Tz w0)) (hW : Below wr.heap.size wr W) (ps : List Pc) (F : Nat → Prop) (v : Value) (hv : RepPs W F ps v) (hF : ∀ k, F k → k < W.heap.size ∧ (k < W2.heap.size ∨ wr.heap.size ≤ k))
    (hb : ∀ p ∈ ps, p.b.length ≤ 1000 ∧ p.tot ≤ 1000 ∧ 0 ≤ p.sum) (hL : L.length + ps.length ≤ 100000) :
    Calls Tryd.prog 11 #[.pointer (some ⟨gh, 0, none⟩), v] W fun e w' => e = .returned (.tuple #[.bool (wholeB (takesE most L ps).2), .int .i64 (takesE most L ps).1]) ∧ NH w0 W2 gh most (takesE most L ps).2 w' := by
  obtain ⟨X, hx⟩ := h.heap
  refine ((hx.next hW).Take hT hTz ps F v hv (fun k hk => ?_) hb hL).mono ?_
  · have := hF k hk
    refine ⟨this.1, fun h9 => ?_, fun h9 => ?_⟩
    · have h1 := hx.own.2 k h9
      have h2 := hx.heap.2.2 k h9
      omega
    · have h1 := hx.own.1
      have h2 := hx.heap.lt
      omega
  · rintro e w' ⟨rfl, -, -, ⟨Y, hy, -⟩, ho⟩
    refine ⟨rfl, below_only (h.old.trans (hW.mono h.old.size)) ho fun k hk => ?_, Y, hy⟩
    rcases hk with hk | hk
    · exact hx.own.2 k hk
    · have := hx.own.1; omega

theorem NH.take {w0 W2 wr W : World} {gh : Nat} {most : Int} {L : List Pc} (h : NH w0 W2 gh most L wr) (hT : Hid (Tab w0)) (hTz : Hid (Tz w0)) (hW : Below wr.heap.size wr W) (p : Pc) (F : Nat → Prop) {a : Option Addr} {n c : Nat} (hu : RepB W F p.b (.slice a n c)) (hF : ∀ k, F k → k < W.heap.size ∧ (k < W2.heap.size ∨ wr.heap.size ≤ k))
    (hb : p.b.length ≤ 1000 ∧ p.tot ≤ 1000 ∧ 0 ≤ p.sum) (hL : L.length < 100000) :
    Calls Tryd.prog 11 #[.pointer (some ⟨gh, 0, none⟩), .slice (some ⟨W.heap.size, 0, none⟩) 1 1] (W.alloc (.cells #[.int .i64 p.idx, .int .i64 p.term, .int .u32 p.sum, .int .i64 p.tot, .int .i64 p.pos, .slice a n c] 35))
      fun e w' => e = .returned (.tuple #[.bool (wholeB (takeE most L p).2), .int .i64 (takeE most L p).1]) ∧ NH w0 W2 gh most (takeE most L p).2 w' := by
  have h1 := h.takes hT hTz (hW.trans ((below_alloc W (.cells #[.int .i64 p.idx, .int .i64 p.term, .int .u32 p.sum, .int .i64 p.tot, .int .i64 p.pos, .slice a n c] 35)).mono hW.size)) [p] _ _ (one_piece hu fun k hk => (hF k hk).1) (fun k hk => by
    rcases hk with hk | hk
    · have := hF k hk; simp; omega
    · have := hW.size; simp; omega) (fun q hq => by rw [List.mem_singleton.1 hq]; exact hb) (by simp; omega)
  rw [takesE_one] at h1
  exact h1

theorem NH.at {w0 W2 wr : World} {gh : Nat} {most : Int} {L : List Pc} (h : NH w0 W2 gh most L wr) : ∃ X, HeapAt wr X gh most L := by
  obtain ⟨X, hx⟩ := h.heap
  exact ⟨X, hx.heap.1⟩

theorem RepPs.pre {w : World} {F : Nat → Prop} {ps : List Pc} {a : Option Addr} {n c : Nat} (h : RepPs w F ps (.slice a n c)) (k : Nat) (hk : k ≤ ps.length) : RepPs w F (ps.take k) (.slice a k c) := by
  rcases h with ⟨h1, h2⟩ | ⟨b, off, c', he, h1, h2, h3, h4⟩
  · subst h1
    obtain rfl : k = 0 := by simpa using hk
    left
    exact ⟨by simp, a, c, rfl⟩
  · cases he
    exact .inr ⟨b, off, c, by rw [List.length_take, Nat.min_eq_left hk], h1, by rw [List.length_take]; omega, h3, fun i hi => by
      have hi2 : i < ps.length := by rw [List.length_take] at hi; omega
      obtain ⟨u, hu1, hu2⟩ := h4 i hi2
      rw [List.getElem_take]
      exact ⟨u, hu1, hu2⟩⟩

theorem RepPs.cap {w : World} {F : Nat → Prop} {ps : List Pc} {a : Option Addr} {n c : Nat} (h : RepPs w F ps (.slice a n c)) (h0 : 0 < ps.length) : ∃ b off, a = some ⟨b, off, none⟩ ∧ n = ps.length ∧ n ≤ c ∧ F b := by
  rcases h with ⟨h1, -⟩ | ⟨b, off, c', he, h1, h2, h3, -⟩
  · rw [h1] at h0; simp at h0
  · cases he
    exact ⟨b, off, rfl, rfl, h2, by have := h1; simp_all⟩

/-- The first pieces of a cut. -/
def pre (i t : Int) (b : List UInt8) (n k : Nat) : List Pc := (List.range k).map (cutPc i t b n)

theorem pre_length (i t : Int) (b : List UInt8) (n k : Nat) : (pre i t b n k).length = k := by simp [pre]

theorem pre_succ (i t : Int) (b : List UInt8) (n k : Nat) : pre i t b n (k + 1) = pre i t b n k ++ [cutPc i t b n k] := by simp [pre, List.range_succ]

theorem pre_cons (i t : Int) (b : List UInt8) (n k : Nat) : ∃ l, pre i t b n (k + 1) = cutPc i t b n 0 :: l := ⟨_, by unfold pre; rw [List.range_succ_eq_map]; rfl⟩

theorem pre_of {i t : Int} {b : List UInt8} {n k : Nat} (h : k ≤ cutN b.length n) : OfCut i t b n (pre i t b n k) := fun p hp => by
  obtain ⟨j, hj, rfl⟩ := List.mem_map.1 hp
  exact ⟨j, by have := List.mem_range.1 hj; omega, rfl⟩

theorem pre_all (i t : Int) (b : List UInt8) (n : Nat) : cutPcs i t b n = pre i t b n (cutN b.length n) := rfl

theorem pre_take {i t : Int} {b : List UInt8} {n k : Nat} (h : k ≤ cutN b.length n) : (cutPcs i t b n).take k = pre i t b n k := by
  unfold cutPcs pre
  rw [← List.map_take, List.take_range, Nat.min_eq_left h]

theorem pre_takes {most i t : Int} {b : List UInt8} {n : Nat} (hm : okMark i t = true) (hs : 0 < n) (hb : (b.length : Int) ≤ most) : ∀ k, k ≤ cutN b.length n → takesE most [] (pre i t b n k) = (0, pre i t b n k)
  | 0, _ => by unfold pre takesE; rfl
  | k + 1, h => by
    have ih := pre_takes hm hs hb k (by omega)
    rw [pre_succ, takesE_snoc _ _ _ _ (by rw [ih]), ih]
    exact take_cut hm hs (by omega) hb (pre_of (by omega))

theorem cutPc_inj {i t : Int} {b : List UInt8} {n j k : Nat} (hs : 0 < n) (h : cutPc i t b n j = cutPc i t b n k) : j = k := by
  have h1 := congrArg (fun p => p.pos.toNat) h
  simp only [cutPc_pos] at h1
  exact Nat.eq_of_mul_eq_mul_right hs h1

theorem pre_whole {i t : Int} {b : List UInt8} {n k : Nat} (hs : 0 < n) (h : k ≤ cutN b.length n) : wholeB (pre i t b n k) = decide (k = cutN b.length n) := by
  have hp := cutN_pos (n := b.length) hs
  cases k with
  | zero => rw [decide_eq_false (by omega)]; rfl
  | succ k =>
    have hne : pre i t b n (k + 1) ≠ [] := by rw [pre_succ]; simp
    have hw := OfCut.whole hs (pre_of (i := i) (t := t) h) hne
    rw [Bool.eq_iff_iff, hw, decide_eq_true_iff]
    constructor
    · intro hall
      obtain ⟨j, hj, he⟩ := List.mem_map.1 (hall (cutN b.length n - 1) (by omega))
      have := cutPc_inj hs he
      have := List.mem_range.1 hj
      omega
    · intro he j hj
      exact List.mem_map.2 ⟨j, List.mem_range.2 (by omega), rfl⟩

theorem pre_wl {i t : Int} {b : List UInt8} {n : Nat} (hs : 0 < n) : wholeL (pre i t b n (cutN b.length n)) = b := by
  have hp := cutN_pos (n := b.length) hs
  have hw := pre_whole (i := i) (t := t) (b := b) hs (Nat.le_refl (cutN b.length n))
  rw [decide_eq_true rfl] at hw
  have hne : pre i t b n (cutN b.length n) ≠ [] := by
    intro h
    have := congrArg List.length h
    rw [pre_length] at this
    simp at this
    omega
  unfold wholeL
  rw [if_pos hw]
  exact OfCut.bytes (pre_of (Nat.le_refl _)) hne hw

theorem pre_tot {i t : Int} {b : List UInt8} {n k : Nat} (h : k ≤ cutN b.length n) (h0 : 0 < k) : totN (pre i t b n k) = b.length := (pre_of h).tot (by
  intro h1
  have := congrArg List.length h1
  rw [pre_length] at this
  simp at this
  omega)

/-- What stands ahead of round i: the elder one's first pieces, then the newer one's. -/
def newL (a b : List UInt8) (n k i : Nat) : List Pc := if i = 0 then pre 4 2 a n k else pre 5 1 b n i

theorem newL_succ (a b : List UInt8) (n k i : Nat) : newL a b n k (i + 1) = pre 5 1 b n (i + 1) := by unfold newL; rw [if_neg (by omega)]

theorem take_new {a b : List UInt8} {n k i : Nat} (hs : 0 < n) (hb : b.length ≤ 200) (hk : k ≤ cutN a.length n) (hi : i < cutN b.length n) : takeE 200 (newL a b n k i) (cutPc 5 1 b n i) = (0, pre 5 1 b n (i + 1)) := by
  cases i with
  | zero =>
    unfold newL
    rw [if_pos rfl]
    cases k with
    | zero => exact take_cut (by decide) hs hi (by omega) (fun p hp => by cases hp)
    | succ k =>
      obtain ⟨l, hl⟩ := pre_cons 4 2 a n k
      rw [hl]
      exact take_cut_newer (by decide) hs hi (by omega) (by show (4 : Int) < 5; decide)
  | succ i =>
    rw [newL_succ, take_cut (by decide) hs hi (by omega) (pre_of (by omega)), ← pre_succ]

theorem take_elder {a b : List UInt8} {n j i : Nat} (hs : 0 < n) (ha : a.length ≤ 200) (hj : j < cutN a.length n) : takeE 200 (pre 5 1 b n (i + 1)) (cutPc 4 2 a n j) = (70, pre 5 1 b n (i + 1)) := by
  obtain ⟨l, hl⟩ := pre_cons 5 1 b n i
  rw [hl]
  refine take_stale (cutPc_ok (by decide) hs hj (by omega)) (by show (4 : Int) ≤ 5; decide) ?_
  unfold alike
  exact decide_eq_false fun h => by
    have h1 : (4 : Int) = 5 := h.1
    omega

theorem hd_pre (i t : Int) (b : List UInt8) (n k : Nat) : hdIdx (pre i t b n (k + 1)) = i ∧ hdTerm (pre i t b n (k + 1)) = t := by
  obtain ⟨l, hl⟩ := pre_cons i t b n k
  rw [hl]
  exact ⟨rfl, rfl⟩

theorem field_mark (a b : Int) (w : World) : (Instr.field 23 (.agg #[.int .i64 a, .int .i64 b]) 0).run Tryd.prog w = .ok (.int .i64 a) w := by rfl

theorem mod_at7 (r n : Int) (hn : 0 < n) : ∃ q : Nat, (r.tmod n + n).tmod n = (q : Int) ∧ (q : Int) < n ∧ -n < r.tmod n ∧ r.tmod n < n := by
  have a1 := Int.tmod_lt_of_pos r hn
  have a2 : -n < r.tmod n := Int.lt_tmod_of_pos r hn
  generalize r.tmod n = x at *
  have b1 := Int.tmod_lt_of_pos (x + n) hn
  have b2 := Int.tmod_nonneg n (show 0 ≤ x + n by omega)
  exact ⟨((x + n).tmod n).toNat, (Int.toNat_of_nonneg b2).symm, by omega, a2, a1⟩
end Go.Proofs.YtdngfbljcmbniaaDoor.M

/- Part: ChS. -/
namespace Go.Proofs.YtdngfbljcmbniaaDoor.M
open Go.RowKit Go.Maps

def elder : List UInt8 := [101, 108, 100, 101, 114]
theorem elder_n : cutN elder.length 2 = 3 := by decide

/-- What a heap has that was told the elder one's first piece, then the pieces S of the cut. -/
def lstB (b : List UInt8) (n : Nat) (S : List Nat) : List Pc := if S = [] then [cutPc 6 2 elder 2 0] else S.map (cutPc 7 2 b n)

theorem lstB_ne {b : List UInt8} {n : Nat} {S : List Nat} (h : S ≠ []) : lstB b n S = S.map (cutPc 7 2 b n) := if_neg h

theorem lstB_of {b : List UInt8} {n : Nat} {S : List Nat} (hS : ∀ j ∈ S, j < cutN b.length n) : OfCut 7 2 b n (S.map (cutPc 7 2 b n)) := fun p hp => by
  obtain ⟨j, hj, rfl⟩ := List.mem_map.1 hp
  exact ⟨j, hS j hj, rfl⟩

theorem lstB_length (b : List UInt8) (n : Nat) (S : List Nat) : (lstB b n S).length ≤ S.length + 1 := by
  unfold lstB; split
  · simp
  · simp

theorem take_back {b : List UInt8} {n k : Nat} {S : List Nat} (hs : 0 < n) (hb : b.length ≤ 300) (hS : ∀ j ∈ S, j < cutN b.length n) (hk : k < cutN b.length n) :
    takeE 300 (lstB b n S) (cutPc 7 2 b n k) = (0, lstB b n (S ++ [k])) := by
  rw [lstB_ne (S := S ++ [k]) (by simp), List.map_append]
  by_cases h : S = []
  · subst h
    unfold lstB
    rw [if_pos rfl]
    exact take_cut_newer (by decide) hs hk (by omega) (by show (6 : Int) < 7; decide)
  · rw [lstB_ne h, take_cut (by decide) hs hk (by omega) (lstB_of hS)]
    rfl

/-- How many of N aren't in S. -/
def leftB (N : Nat) (S : List Nat) : Nat := ((List.range N).filter fun j => !S.contains j).length

theorem left_nil (N : Nat) : leftB N [] = N := by
  unfold leftB
  rw [List.filter_eq_self.2 (by simp), List.length_range]

theorem left_zero {N : Nat} {S : List Nat} : leftB N S = 0 ↔ ∀ j, j < N → j ∈ S := by
  unfold leftB
  rw [List.length_eq_zero_iff, List.filter_eq_nil_iff]
  simp

theorem left_in {N k : Nat} {S : List Nat} (h : k ∈ S) : leftB N (S ++ [k]) = leftB N S := by
  unfold leftB
  congr 1
  apply List.filter_congr
  intro j _
  simp only [List.contains_eq_mem, List.mem_append, List.mem_singleton]
  by_cases hj : j ∈ S
  · simp [hj]
  · have : j ≠ k := fun e => hj (e ▸ h)
    simp [hj, this]

theorem left_out {N k : Nat} {S : List Nat} (hk : k < N) (h : k ∉ S) : leftB N (S ++ [k]) + 1 = leftB N S := by
  unfold leftB
  have h1 : ∀ l : List Nat, l.Nodup → k ∈ l → (l.filter fun j => !(S ++ [k]).contains j).length + 1 = (l.filter fun j => !S.contains j).length := by
    intro l hn hm
    induction l with
    | nil => cases hm
    | cons x l ih =>
      have hx := (List.nodup_cons.1 hn).1
      have hl := (List.nodup_cons.1 hn).2
      by_cases hxk : x = k
      · subst hxk
        rw [List.filter_cons_of_neg (by simp), List.filter_cons_of_pos (by simpa using h), List.length_cons]
        congr 2
        apply List.filter_congr
        intro j hj
        have : j ≠ x := fun e => hx (e ▸ hj)
        simp [this]
      · have hm' : k ∈ l := by
          rcases List.mem_cons.1 hm with e | e
          · exact absurd e.symm hxk
          · exact e
        have ih := ih hl hm'
        by_cases hxS : x ∈ S
        · rw [List.filter_cons_of_neg (by simp [hxS]), List.filter_cons_of_neg (by simp [hxS])]
          exact ih
        · rw [List.filter_cons_of_pos (by simp [hxS, hxk]), List.filter_cons_of_pos (by simp [hxS]), List.length_cons, List.length_cons]
          omega
  exact h1 _ List.nodup_range (List.mem_range.2 hk)

theorem whole_back {b : List UInt8} {n : Nat} {S : List Nat} (hs : 0 < n) (hS : ∀ j ∈ S, j < cutN b.length n) (h : S ≠ []) : wholeB (lstB b n S) = decide (leftB (cutN b.length n) S = 0) := by
  rw [lstB_ne h]
  have hw := OfCut.whole hs (lstB_of hS) (by simpa using h)
  rw [Bool.eq_iff_iff, hw, decide_eq_true_iff, left_zero]
  constructor
  · intro hall j hj
    obtain ⟨i, hi, he⟩ := List.mem_map.1 (hall j hj)
    rw [← cutPc_inj hs he]
    exact hi
  · intro hall j hj
    exact List.mem_map.2 ⟨j, hall j hj, rfl⟩

theorem stale_back {b : List UInt8} {n j : Nat} {S : List Nat} (h : S ≠ []) (hj : j < 3) : takeE 300 (lstB b n S) (cutPc 6 2 elder 2 j) = (70, lstB b n S) := by
  rw [lstB_ne h]
  cases S with
  | nil => exact absurd rfl h
  | cons s S =>
    rw [List.map_cons]
    refine take_stale (cutPc_ok (by decide) (by decide) (by rw [elder_n]; exact hj) (by decide)) (by show (6 : Int) ≤ 7; decide) ?_
    unfold alike
    exact decide_eq_false fun h => by
      have h1 : (6 : Int) = 7 := h.1
      omega

/-- A piece with a spoilt first byte. -/
def badPc (b : List UInt8) (n k : Nat) (r : List UInt8) : Pc := { cutPc 7 2 b n k with b := r }

theorem clash_back {b : List UInt8} {n k : Nat} {S : List Nat} {c c' : UInt8} {r : List UInt8} (hs : 0 < n) (hb : b.length ≤ 300) (hS : ∀ j ∈ S, j < cutN b.length n) (hk : k ∈ S) (hc : (cutPc 7 2 b n k).b = c :: r) (hne : c' ≠ c) :
    takeE 300 (lstB b n S) (badPc b n k (c' :: r)) = (71, lstB b n S) := by
  have h : S ≠ [] := fun e => by rw [e] at hk; cases hk
  rw [lstB_ne h]
  have hof := lstB_of hS
  have hmem : cutPc 7 2 b n k ∈ S.map (cutPc 7 2 b n) := List.mem_map.2 ⟨k, hk, rfl⟩
  have hok : okPc 300 (cutPc 7 2 b n k) = true := cutPc_ok (by decide) hs (hS k hk) (by omega)
  have hok' : okPc 300 (badPc b n k (c' :: r)) = true := by
    have h1 := okPc_iff.1 hok
    rw [hc] at h1
    exact okPc_iff.2 h1
  have hby := byteL_mem (p := cutPc 7 2 b n k) (j := (cutPc 7 2 b n k).pos.toNat) (by rw [hc]; simp) hmem
  obtain ⟨d, hd⟩ := Option.isSome_iff_exists.1 hby
  have hd2 := hof.byte hd
  have hd3 : (cutPc 7 2 b n k).b[0]? = b[k * n + 0]? := cutPc_get (by rw [hc]; simp)
  rw [cutPc_pos] at hd2
  rw [hc, Nat.add_zero, hd2] at hd3
  have hdc : c = d := by simpa using hd3
  have hcl : clashAt (byteL (S.map (cutPc 7 2 b n))) (badPc b n k (c' :: r)).pos.toNat (badPc b n k (c' :: r)).b = true := clashAt_iff.2 ⟨0, by simp [badPc], by rw [Nat.add_zero]; exact hby, by
    rw [Nat.add_zero]
    show byteL (S.map (cutPc 7 2 b n)) (cutPc 7 2 b n k).pos.toNat ≠ (c' :: r)[0]?
    rw [hd]
    intro e
    have : d = c' := by simpa using e
    exact hne (by rw [hdc, this])⟩
  obtain ⟨f, L, hL⟩ : ∃ f L, S.map (cutPc 7 2 b n) = f :: L := by
    cases S with
    | nil => exact absurd rfl h
    | cons s S => exact ⟨_, _, rfl⟩
  have hal : alike (badPc b n k (c' :: r)) f = true := by
    obtain ⟨j, -, hf⟩ := hof f (by rw [hL]; simp)
    rw [hf]
    exact alike_iff.2 ⟨rfl, rfl, rfl, rfl⟩
  rw [hL] at hcl ⊢
  exact take_clash hok' hal hcl

theorem bytes_back {b : List UInt8} {n : Nat} {S : List Nat} (hs : 0 < n) (hS : ∀ j ∈ S, j < cutN b.length n) (h : S ≠ []) (h0 : leftB (cutN b.length n) S = 0) :
    wholeB (lstB b n S) = true ∧ wholeL (lstB b n S) = b ∧ missing (lstB b n S) = b.length ∧ totN (lstB b n S) = b.length := by
  have hw : wholeB (lstB b n S) = true := by rw [whole_back hs hS h]; exact decide_eq_true h0
  have hw' := hw
  rw [lstB_ne h] at hw'
  have hne : S.map (cutPc 7 2 b n) ≠ [] := by simpa using h
  have ht := (lstB_of hS).tot hne
  refine ⟨hw, ?_, ?_, by rw [lstB_ne h]; exact ht⟩
  · unfold wholeL
    rw [if_pos hw, lstB_ne h]
    exact (lstB_of hS).bytes hne hw'
  · rw [lstB_ne h, whole_missing hw', ht]
end Go.Proofs.YtdngfbljcmbniaaDoor.M

/- Part: ChT. -/
namespace Go.Proofs.YtdngfbljcmbniaaDoor.M
open Go.RowKit Go.Maps

def bools (N : Nat) (S : List Nat) : List Value := (List.range N).map fun j => .bool (decide (j ∈ S))

theorem bools_get {N : Nat} {S : List Nat} {j : Nat} (h : j < N) : (bools N S)[j]? = some (.bool (decide (j ∈ S))) := by
  unfold bools
  rw [List.getElem?_map, List.getElem?_range h]
  rfl

theorem bools_nil (N : Nat) : madeCells #[Value.bool false] N = (bools N []).toArray := by
  apply Array.toList_inj.1
  rw [toList_madeCells_one]
  unfold bools
  apply List.ext_getElem?
  intro i
  by_cases hi : i < N
  · simp [hi]
  · simp [hi]

theorem bools_set {N : Nat} {S : List Nat} {k : Nat} : (bools N S).toArray.setIfInBounds k (.bool true) = (bools N (S ++ [k])).toArray := by
  rw [List.setIfInBounds_toArray]
  congr 1
  unfold bools
  apply List.ext_getElem?
  intro i
  rw [List.getElem?_set]
  by_cases hi : i < N
  · by_cases hik : k = i
    · subst hik
      rw [if_pos rfl, if_pos (by simpa using hi), List.getElem?_map, List.getElem?_range hi]
      simp
    · rw [if_neg hik, List.getElem?_map, List.getElem?_map, List.getElem?_range hi]
      have : i ≠ k := fun e => hik e.symm
      simp [this]
  · have h1 : ∀ T : List Nat, ((List.range N).map fun j => Value.bool (decide (j ∈ T)))[i]? = none := fun T => List.getElem?_eq_none (by simp; omega)
    rw [h1, h1]
    split
    · split
      · rename_i h2 h3
        subst h2
        exact absurd (by simpa using h3) hi
      · rfl
    · rfl

theorem infoBool7 : (Tryd.prog.info? 4).map (fun i => (i.zero, i.size, i.bytes)) = some (some (.bool false), 1, 1) := by kernel_rfl

theorem make_bools (W : World) (N : Nat) (hN : N ≤ 281474976710656) :
    (Instr.makeSlice 37 (.int .i64 (N : Int)) (.int .i64 (N : Int))).run Tryd.prog W = .ok (.slice (some ⟨W.heap.size, 0, none⟩) N N) (W.alloc (.cells (bools N []).toArray 4)) := by
  rw [← bools_nil]
  exact run_make_row' 37 4 (.bool false) 1 Tryd.underlying37 infoBool7 rfl .i64 .i64 N (by omega) (by omega) W

theorem HP.far {w0 wr : World} {z : Nat} {X : Nat → Prop} {g : Nat} {most : Int} {L : List Pc} (h : HP w0 z X g most L wr) {gt k : Nat} (h1 : z ≤ gt) (h2 : ¬ X gt) (h3 : gt ≠ g) (v : Value) : HP w0 z X g most L (wr.setCell ⟨gt, k, none⟩ v) :=
  ⟨h.below.setCell (Nat.le_trans h.base h1) _, h.base, h.own, ⟨h.heap.1.same (fun _ h => h) (Below.heap_setCell _ _ _ _ (by show g ≠ gt; exact fun e => h3 e.symm)) fun j hj _ => Below.heap_setCell _ _ _ _ (by show j ≠ gt; exact fun e => h2 (e ▸ hj)), h.heap.2.1, fun j hj => by rw [World.size_setCell]; exact h.heap.2.2 j hj⟩, h.inv⟩

structure BK (w0 W2 : World) (gh : Nat) (most : Int) (gt N : Nat) (L : List Pc) (S : List Nat) (wr : World) : Prop where
  old : Below W2.heap.size W2 wr
  heap : ∃ X, HP w0 W2.heap.size X gh most L wr ∧ ¬ X gt
  far : W2.heap.size ≤ gt ∧ gt ≠ gh
  row : wr.heap[gt]? = some (.cells (bools N S).toArray 4)

theorem BK.nh {w0 W2 wr : World} {gh gt N : Nat} {most : Int} {L : List Pc} {S : List Nat} (h : BK w0 W2 gh most gt N L S wr) : NH w0 W2 gh most L wr := by
  obtain ⟨X, hx, -⟩ := h.heap
  exact ⟨h.old, X, hx⟩

theorem BK.next {w0 W2 wr w' : World} {gh gt N : Nat} {most : Int} {L : List Pc} {S : List Nat} (h : BK w0 W2 gh most gt N L S wr) (hb : Below wr.heap.size wr w') : BK w0 W2 gh most gt N L S w' := by
  obtain ⟨X, hx, hn⟩ := h.heap
  exact ⟨h.old.trans (hb.mono h.old.size), ⟨X, hx.next hb, hn⟩, h.far, old_below h.row hb⟩

theorem BK.new {w0 W2 wr : World} {gh N : Nat} {most : Int} {L : List Pc} (h : NH w0 W2 gh most L wr) : BK w0 W2 gh most wr.heap.size N L [] (wr.alloc (.cells (bools N []).toArray 4)) := by
  have h' := h.next (below_alloc wr (.cells (bools N []).toArray 4))
  obtain ⟨X, hx⟩ := h.heap
  refine ⟨h'.old, ⟨X, hx.next (below_alloc _ _), fun h9 => ?_⟩, ⟨h.old.size, fun e => ?_⟩, heap_new _ _ _ rfl⟩
  · have := hx.heap.2.2 _ h9; omega
  · have := hx.heap.lt; omega

theorem BK.put {w0 W2 wr : World} {gh gt N : Nat} {most : Int} {L : List Pc} {S : List Nat} (h : BK w0 W2 gh most gt N L S wr) (k : Nat) : BK w0 W2 gh most gt N L (S ++ [k]) (wr.setCell ⟨gt, k, none⟩ (.bool true)) := by
  obtain ⟨X, hx, hn⟩ := h.heap
  refine ⟨h.old.setCell h.far.1 _, ⟨X, hx.far h.far.1 hn h.far.2 _, hn⟩, h.far, ?_⟩
  rw [← bools_set]
  exact heap_setCell_same _ _ _ _ _ _ h.row

theorem BK.cell {w0 W2 wr : World} {gh gt N : Nat} {most : Int} {L : List Pc} {S : List Nat} (h : BK w0 W2 gh most gt N L S wr) {j : Nat} (hj : j < N) : wr.cell? ⟨gt, j, none⟩ = some (.bool (decide (j ∈ S))) ∧ wr.frozen? ⟨gt, j, none⟩ = false ∧ gt < wr.heap.size :=
  ⟨(cell_of_row _ _ j _ _ _ h.row).trans (by rw [List.getElem?_toArray]; exact bools_get hj), frozen_of_row _ _ j _ _ h.row, lt_of_heap h.row⟩

theorem BK.take {w0 W2 wr W : World} {gh gt N : Nat} {most : Int} {L : List Pc} {S : List Nat} (h : BK w0 W2 gh most gt N L S wr) (hT : Hid (Tab w0)) (hTz : Hid (Tz w0)) (hW : Below wr.heap.size wr W) (p : Pc) (F : Nat → Prop) {a : Option Addr} {n c : Nat} (hu : RepB W F p.b (.slice a n c)) (hF : ∀ k, F k → k < W.heap.size ∧ (k < W2.heap.size ∨ wr.heap.size ≤ k))
    (hb : p.b.length ≤ 1000 ∧ p.tot ≤ 1000 ∧ 0 ≤ p.sum) (hL : L.length < 100000) :
    Calls Tryd.prog 11 #[.pointer (some ⟨gh, 0, none⟩), .slice (some ⟨W.heap.size, 0, none⟩) 1 1] (W.alloc (.cells #[.int .i64 p.idx, .int .i64 p.term, .int .u32 p.sum, .int .i64 p.tot, .int .i64 p.pos, .slice a n c] 35))
      fun e w' => e = .returned (.tuple #[.bool (wholeB (takeE most L p).2), .int .i64 (takeE most L p).1]) ∧ BK w0 W2 gh most gt N (takeE most L p).2 S w' := by
  obtain ⟨X, hx, hn⟩ := h.heap
  have hW1 : Below wr.heap.size wr (W.alloc (.cells #[.int .i64 p.idx, .int .i64 p.term, .int .u32 p.sum, .int .i64 p.tot, .int .i64 p.pos, .slice a n c] 35)) := hW.trans ((below_alloc W _).mono hW.size)
  have hrow := old_below h.row hW1
  have hlt := lt_of_heap h.row
  have hTk := (hx.next hW1).Take hT hTz [p] _ _ (one_piece hu fun k hk => (hF k hk).1) (fun k hk => by
    have hz := hW.size
    have h9 : k < W.heap.size + 1 ∧ (k < W2.heap.size ∨ wr.heap.size ≤ k) := by
      rcases hk with hk | hk
      · have := hF k hk; omega
      · omega
    refine ⟨by simp; omega, fun hxk => ?_, fun e => ?_⟩
    · have h1 := hx.own.2 k hxk
      have h2 := hx.heap.2.2 k hxk
      omega
    · have h1 := hx.own.1
      have h2 := hx.heap.lt
      omega) (fun q hq => by rw [List.mem_singleton.1 hq]; exact hb) (by simp; omega)
  refine hTk.mono ?_
  rintro e w' ⟨rfl, -, -, ⟨Y, hy, hYX⟩, ho⟩
  rw [takesE_one] at hy ⊢
  refine ⟨rfl, below_only (h.old.trans (hW1.mono h.old.size)) ho fun k hk => ?_, ⟨Y, hy, fun h9 => ?_⟩, h.far, ?_⟩
  · rcases hk with hk | hk
    · exact hx.own.2 k hk
    · have := hx.own.1; omega
  · rcases hYX _ h9 with h1 | h1
    · exact hn h1
    · have := hW1.size; omega
  · rw [ho.block gt (lt_of_heap hrow) (by rintro (h1 | h1); exact hn h1; exact h.far.2 h1)]
    exact hrow

theorem Own.base7 {w w1 w2 : World} {L : List UInt8} {v : Value} (h : Own w1 L v w2) (hb : Below w.heap.size w w1) : Own w L v w2 := by
  have hz := hb.size
  refine ⟨hb.trans (h.1.mono hz), h.2.1, ?_⟩
  rcases h.2.2 with h1 | ⟨g, cap, cur, h1, h2, h3⟩
  · exact .inl h1
  · exact .inr ⟨g, cap, cur, h1, by omega, h3⟩

theorem Own.far7 {w wr : World} {L : List UInt8} {v : Value} (h : Own w L v wr) {g j : Nat} (hg : w.heap.size ≤ g) (hn : v.ownBlock ≠ some g) (x : Value) : Own w L v (wr.setCell ⟨g, j, none⟩ x) :=
  ⟨h.1.setCell hg _, ownsRow_same7 h.2 fun k hk => Below.heap_setCell _ _ _ _ (by
    show k ≠ g
    intro e
    exact hn (e ▸ hk))⟩

theorem spoilt (c : UInt8) : bits .xor .u8 (c.toNat : Int) 255 = ((c ^^^ 255).toNat : Int) := by
  have h : ∀ c : UInt8, bits .xor .u8 (c.toNat : Int) 255 = ((c ^^^ 255).toNat : Int) := by
    intro c
    have h2 := u8_xor_nat c.toNat 255 c.toNat_lt (by decide)
    rw [UInt8.toNat_xor]
    exact h2
  exact h c

theorem spoilt_ne (c : UInt8) : c ^^^ 255 ≠ c := by
  intro h
  have h1 := congrArg (fun x => x ^^^ c) h
  simp only [UInt8.xor_self] at h1
  rw [UInt8.xor_comm c 255, UInt8.xor_assoc, UInt8.xor_self] at h1
  exact absurd h1 (by decide)

theorem eqMark7 (a b : Int) (w : World) : (Op.equalIn 10000 23 (.agg #[.int .i64 a, .int .i64 b]) (.agg #[.int .i64 a, .int .i64 b])).run Tryd.prog w = .ok true w := by
  go_simp

theorem hd_lst {b : List UInt8} {n : Nat} {S : List Nat} (h : S ≠ []) : hdIdx (lstB b n S) = 7 ∧ hdTerm (lstB b n S) = 2 := by
  rw [lstB_ne h]
  cases S with
  | nil => exact absurd rfl h
  | cons s S => exact ⟨rfl, rfl⟩
end Go.Proofs.YtdngfbljcmbniaaDoor.M

/- Part: ChR1. -/
namespace Go.Proofs.YtdngfbljcmbniaaDoor.M
open Go.RowKit Go.Maps

set_option maxRecDepth 20000 in
set_option maxHeartbeats 1000000 in
theorem RefRight7_any (i t : Int) (w : World) : Calls Tryd.prog 22 #[mkAgg i t] w fun e w' => e = .returned (.bool (okMark i t)) ∧ Below w.heap.size w w' := by
  unfold mkAgg
  obtain ⟨ok, hok⟩ : ∃ ok, ok = okMark i t := ⟨_, rfl⟩
  rw [← hok]
  by_cases h1 : i > 0
  · have q1 : decide (i > 0) = true := decide_eq_true h1
    by_cases h3 : t > 0
    · have q3 : decide (t > 0) = true := decide_eq_true h3
      by_cases h2 : i < 10000000000
      · have q2 : decide (i < 10000000000) = true := decide_eq_true h2
        by_cases h4 : t < 10000000000
        · have q4 : decide (t < 10000000000) = true := decide_eq_true h4
          have HOK : Hid (ok = true) := Lib.hid (by rw [hok]; unfold okMark; exact decide_eq_true ⟨by omega, h2, by omega, h4⟩)
          clear hok
          go_enter Tryd.func22, Tryd.ntmps22
          go_wp2_with fail
          go_ret
          exact ⟨by rw [HOK.out]; rfl, below_alloc _ _⟩
        · have q4 : decide (t < 10000000000) = false := decide_eq_false h4
          have HOK : Hid (ok = false) := Lib.hid (by rw [hok]; unfold okMark; exact decide_eq_false (by omega))
          clear hok
          go_enter Tryd.func22, Tryd.ntmps22
          go_wp2_with fail
          go_ret
          exact ⟨by rw [HOK.out]; rfl, below_alloc _ _⟩
      · have q2 : decide (i < 10000000000) = false := decide_eq_false h2
        have HOK : Hid (ok = false) := Lib.hid (by rw [hok]; unfold okMark; exact decide_eq_false (by omega))
        clear hok
        go_enter Tryd.func22, Tryd.ntmps22
        go_wp2_with fail
        go_ret
        exact ⟨by rw [HOK.out]; rfl, below_alloc _ _⟩
    · have q3 : decide (t > 0) = false := decide_eq_false h3
      have HOK : Hid (ok = false) := Lib.hid (by rw [hok]; unfold okMark; exact decide_eq_false (by omega))
      clear hok
      go_enter Tryd.func22, Tryd.ntmps22
      go_wp2_with fail
      go_ret
      exact ⟨by rw [HOK.out]; rfl, below_alloc _ _⟩
  · have q1 : decide (i > 0) = false := decide_eq_false h1
    have HOK : Hid (ok = false) := Lib.hid (by rw [hok]; unfold okMark; exact decide_eq_false (by omega))
    clear hok
    go_enter Tryd.func22, Tryd.ntmps22
    go_wp2_with fail
    go_ret
    exact ⟨by rw [HOK.out]; rfl, below_alloc _ _⟩

set_option maxRecDepth 20000 in
set_option maxHeartbeats 2000000 in
theorem Same7_any (p : Pc) (F G : Nat → Prop) (a a' : Option Addr) (n n' c c' : Nat) (w : World) (h : RepB w F p.b (.slice a n c)) (h' : RepB w G p.b (.slice a' n' c')) (hF : ∀ k, F k → k < w.heap.size) (hG : ∀ k, G k → k < w.heap.size) :
    Calls Tryd.prog 8 #[pcAgg p (.slice a n c), pcAgg p (.slice a' n' c')] w fun e w' => e = .returned (.bool true) ∧ Below w.heap.size w w' := by
  obtain ⟨i, t, s, o, q, b⟩ := p
  unfold pcAgg
  obtain ⟨W, hW⟩ : ∃ W, W = (w.alloc (.cells #[.int .i64 i, .int .i64 t, .int .u32 s, .int .i64 o, .int .i64 q, .slice a n c] 35)).alloc (.cells #[.int .i64 i, .int .i64 t, .int .u32 s, .int .i64 o, .int .i64 q, .slice a' n' c'] 35) := ⟨_, rfl⟩
  have hb : Below w.heap.size w W := by rw [hW]; exact ((Below.refl _ w).alloc (Nat.le_refl _) _).alloc (by simp) _
  have hs := run_string (P := Tryd.prog) (h.same (w' := W) (fun _ h => h) fun k hk => hb.block k (hF k hk)) 24 5 9 Tryd.underlying24 Tryd.underlying5 Tryd.underlying9
  have hs' := run_string (P := Tryd.prog) (h'.same (w' := W) (fun _ h => h) fun k hk => hb.block k (hG k hk)) 24 5 9 Tryd.underlying24 Tryd.underlying5 Tryd.underlying9
  have heq := fun w' => eqMark7 i t w'
  obtain ⟨S, hS⟩ : ∃ S, S = strOf b := ⟨_, rfl⟩
  dsimp only at hs hs'
  rw [← hS, hW] at hs hs'
  have HB : Hid (Below w.heap.size w ((w.alloc (.cells #[.int .i64 i, .int .i64 t, .int .u32 s, .int .i64 o, .int .i64 q, .slice a n c] 35)).alloc (.cells #[.int .i64 i, .int .i64 t, .int .u32 s, .int .i64 o, .int .i64 q, .slice a' n' c'] 35))) := Lib.hid (by rw [← hW]; exact hb)
  clear hW hb h h' hF hG hS
  go_enter Tryd.func8, Tryd.ntmps8
  go_wp2_with fail
  go_ret
  exact ⟨by simp, HB.out⟩
end Go.Proofs.YtdngfbljcmbniaaDoor.M

/- Part: ChR3. -/
namespace Go.Proofs.YtdngfbljcmbniaaDoor.M
open Go.RowKit Go.Maps

theorem flat_set6 : ∀ (l : List (Pc × Value)) (i : Nat) (y : Pc × Value) (h : i < l.length), pvV y = pvV l[i] → (l.set i y).flatMap pvV = l.flatMap pvV
  | x :: l, 0, y, _, e => by
    rw [List.set_cons_zero, List.flatMap_cons, List.flatMap_cons, e]
    rfl
  | x :: l, i + 1, y, h, e => by
    rw [List.set_cons_succ, List.flatMap_cons, List.flatMap_cons, flat_set6 l i y (by simpa using h) (by simpa using e)]

theorem snd_set7 {pv : List (Pc × Value)} {i : Nat} {y : Pc × Value} (hi : i < pv.length) (he : y.2 = pv[i].2) (j : Nat) (hj : j < (pv.set i y).length) : (pv.set i y)[j].2 = (pv[j]'(by simpa using hj)).2 := by
  rw [List.getElem_set]
  split
  · rename_i h
    subst h
    exact he
  · rfl

/-- .. with one byte turned. -/
def turnP (p : Pc) (m : Nat) (d : UInt8) : Pc := ⟨p.idx, p.term, p.sum, p.tot, p.pos, p.b.set m d⟩

/-- One byte of one piece is turned. -/
theorem PcRow.turn {base : Nat} {pv : List (Pc × Value)} {v : Value} {W : World} (h : PcRow base pv v W) (i : Nat) (hi : i < pv.length) (m : Nat) (hm : m < pv[i].1.b.length) :
    ∃ g c, pv[i].2 = .slice (some ⟨g, 0, none⟩) pv[i].1.b.length c ∧ pv[i].1.b.length ≤ c ∧ base ≤ g ∧ g < W.heap.size ∧ W.cell? ⟨g, m, none⟩ = some (.int .u8 (pv[i].1.b[m].toNat : Int)) ∧ W.frozen? ⟨g, m, none⟩ = false ∧
      ∀ d : UInt8, PcRow base (pv.set i (turnP pv[i].1 m d, pv[i].2)) v (W.setCell ⟨g, m, none⟩ (.int .u8 (d.toNat : Int))) := by
  obtain ⟨ho, hne⟩ := h.own _ (List.getElem_mem hi)
  obtain ⟨g, cap, hv, hg, hcap⟩ : ∃ g cap, pv[i].2 = .slice (some ⟨g, 0, none⟩) pv[i].1.b.length cap ∧ base ≤ g ∧ pv[i].1.b.length ≤ cap := by
    rcases ho.2 with ⟨h1, h2⟩ | ⟨g, cap, cur, h1, h2, h3, h4, -⟩
    · omega
    · exact ⟨g, cap, h1, h2, h4⟩
  have hgl := ho.lt g (by rw [hv]; rfl)
  have ho' := ho
  rw [hv] at ho'
  refine ⟨g, cap, hv, hcap, hg, hgl.2, ?_, ho'.frozenAt m, fun d => ?_⟩
  · rw [ho'.cellAt m (by omega)]
    simp [hm, byteV]
  · have hgi : pv[i].2.ownBlock = some g := by rw [hv]; rfl
    have hset := (ho'.stored m (byteV d)).1
    have hother : ∀ k, k ≠ g → (W.setCell ⟨g, m, none⟩ (.int .u8 (d.toNat : Int))).heap[k]? = W.heap[k]? := fun k hk => Below.heap_setCell _ _ _ _ hk
    refine ⟨?_, fun x hx => ?_, ?_⟩
    · rw [List.length_set, flat_set6 pv i (turnP pv[i].1 m d, pv[i].2) hi rfl]
      exact own_same7 h.row fun k _ _ hk => hother k fun e => hne g hgi (e ▸ hk)
    · obtain ⟨j, hj, rfl⟩ := List.getElem_of_mem hx
      have hj' : j < pv.length := by simpa using hj
      by_cases hij : i = j
      · subst hij
        simp only [List.getElem_set_self]
        refine ⟨?_, hne⟩
        show World.ownsRow _ base 5 1 pv[i].2 (pv[i].1.b.set m d).length ((pv[i].1.b.set m d).map byteV)
        rw [hv, List.map_set, List.length_set]
        exact hset
      · simp only [List.getElem_set_ne hij]
        obtain ⟨h1, h2⟩ := h.own _ (List.getElem_mem hj')
        refine ⟨own_same7 h1 fun k _ _ hk => hother k fun e => ?_, h2⟩
        subst e
        rcases Nat.lt_or_gt_of_ne hij with hlt | hlt
        · exact List.pairwise_iff_getElem.1 h.apart i j hi hj' hlt k hgi hk
        · exact List.pairwise_iff_getElem.1 h.apart j i hj' hi hlt k hk hgi
    · rw [List.pairwise_iff_getElem]
      intro p q hp hq hpq
      rw [snd_set7 (y := (turnP pv[i].1 m d, pv[i].2)) hi rfl p hp, snd_set7 (y := (turnP pv[i].1 m d, pv[i].2)) hi rfl q hq]
      exact List.pairwise_iff_getElem.1 h.apart p q (by simpa using hp) (by simpa using hq) hpq

/-- All of a row's own blocks lie below z. -/
def Lt7 (z : Nat) (pv : List (Pc × Value)) (v : Value) : Prop := (∀ j, v.ownBlock = some j → j < z) ∧ ∀ x ∈ pv, ∀ j, x.2.ownBlock = some j → j < z

theorem PcRow.lt7 {base : Nat} {pv : List (Pc × Value)} {v : Value} {W : World} (h : PcRow base pv v W) : Lt7 W.heap.size pv v :=
  ⟨fun j hj => (h.row.lt j hj).2, fun x hx j hj => ((h.own x hx).1.lt j hj).2⟩

theorem Lt7.set {z : Nat} {pv : List (Pc × Value)} {v : Value} (h : Lt7 z pv v) {i : Nat} {y : Pc × Value} (hi : i < pv.length) (he : y.2 = pv[i].2) : Lt7 z (pv.set i y) v :=
  ⟨h.1, fun x hx j hj => by
    obtain ⟨k, hk, rfl⟩ := List.getElem_of_mem hx
    rw [snd_set7 hi he k hk] at hj
    exact h.2 _ (List.getElem_mem _) j hj⟩

theorem turned1 (c : UInt8) : bits .xor .u8 (c.toNat : Int) 1 = ((c ^^^ 1).toNat : Int) := by
  have h : ∀ c : UInt8, bits .xor .u8 (c.toNat : Int) 1 = ((c ^^^ 1).toNat : Int) := by
    intro c
    have h2 := u8_xor_nat c.toNat 1 c.toNat_lt (by decide)
    rw [UInt8.toNat_xor]
    exact h2
  exact h c

/-- What a law holds of two cuts while it turns the bytes of one: from the k-th piece on they are as they were, and the k-th has so many bytes. -/
structure TwoCuts (w wa : World) (zb : Nat) (i t : Int) (b : List UInt8) (sz : Nat) (va vb : Value) (k lk : Nat) (wr : World) : Prop where
  old : Below wa.heap.size wa wr
  one : ∃ pv, PcRow wa.heap.size pv va wr ∧ Lt7 zb pv va ∧ pv.length = cutN b.length sz ∧ (∀ j (h : j < pv.length), k ≤ j → pv[j].1 = cutPc i t b sz j) ∧ ∀ (h : k - 1 < pv.length), 0 < k → pv[k - 1].1.b.length = lk
  two : ∃ pw, PcRow zb pw vb wr ∧ pw.map (·.1) = cutPcs i t b sz
  bz : wa.heap.size ≤ zb

theorem TwoCuts.next {w wa wr w' : World} {zb : Nat} {i t : Int} {b : List UInt8} {sz : Nat} {va vb : Value} {k lk : Nat} (h : TwoCuts w wa zb i t b sz va vb k lk wr) (hb : Below wr.heap.size wr w') : TwoCuts w wa zb i t b sz va vb k lk w' := by
  obtain ⟨pv, h1, h2⟩ := h.one
  obtain ⟨pw, h3, h4⟩ := h.two
  exact ⟨h.old.trans (hb.mono h.old.size), ⟨pv, h1.next hb, h2⟩, ⟨pw, h3.next hb, h4⟩, h.bz⟩

/-- The piece that is turned: its bytes' slice. -/
theorem TwoCuts.at {w wa wr : World} {zb : Nat} {i t : Int} {b : List UInt8} {sz : Nat} {ar : Option Addr} {N c0 : Nat} {vb : Value} {k lk : Nat} (h : TwoCuts w wa zb i t b sz (.slice ar N c0) vb (k + 1) lk wr) (hk : k < cutN b.length sz) :
    ∃ gr ua uc, ar = some ⟨gr, 0, none⟩ ∧ wr.cell? ⟨gr, k * 6 + 5, none⟩ = some (.slice ua lk uc) ∧ gr < wr.heap.size ∧ N = cutN b.length sz ∧ N ≤ c0 := by
  obtain ⟨pv, h1, h2, h3, h4, h5⟩ := h.one
  obtain ⟨g, e1, e2, e3, -, -, e6, e7, e8⟩ := h1.elem k (by omega)
  have hl : pv[k].1.b.length = lk := h5 (by simpa using (by omega : k < pv.length)) (by omega)
  obtain ⟨ua, uc, hu, -⟩ := e8.slice
  have h9 := e7 5 (by omega)
  unfold pvV at h9
  rw [hu, hl] at h9
  exact ⟨g, ua, uc, e1, h9, e6, by omega, e3⟩

/-- .. and a byte of it. -/
theorem TwoCuts.byte {w wa wr : World} {zb : Nat} {i t : Int} {b : List UInt8} {sz : Nat} {ar : Option Addr} {N c0 : Nat} {vb : Value} {k lk : Nat} (h : TwoCuts w wa zb i t b sz (.slice ar N c0) vb (k + 1) lk wr) (hk : k < cutN b.length sz) {m : Nat} (hm : m < lk) :
    ∃ gr g uc, ∃ x : UInt8, ar = some ⟨gr, 0, none⟩ ∧ wr.cell? ⟨gr, k * 6 + 5, none⟩ = some (.slice (some ⟨g, 0, none⟩) lk uc) ∧ gr < wr.heap.size ∧ wr.cell? ⟨g, m, none⟩ = some (.int .u8 (x.toNat : Int)) ∧ wr.frozen? ⟨g, m, none⟩ = false ∧ g < wr.heap.size ∧ gr ≠ g ∧
      TwoCuts w wa zb i t b sz (.slice ar N c0) vb (k + 1) lk (wr.setCell ⟨g, m, none⟩ (.int .u8 ((x ^^^ 1).toNat : Int))) := by
  obtain ⟨pv, h1, h2, h3, h4, h5⟩ := h.one
  obtain ⟨pw, h6, h7⟩ := h.two
  have hkl : k < pv.length := by omega
  obtain ⟨gr, e1, -, -, -, -, e6, e7, -⟩ := h1.elem k hkl
  have hl : pv[k].1.b.length = lk := h5 (by simpa using hkl) (by omega)
  obtain ⟨g, uc, f1, f2, f3, f4, f5, f6, f7⟩ := h1.turn k hkl m (by omega)
  have h9 := e7 5 (by omega)
  unfold pvV at h9
  rw [f1, hl] at h9
  have hgz : g < zb := h2.2 _ (List.getElem_mem hkl) g (by rw [f1]; rfl)
  refine ⟨gr, g, uc, pv[k].1.b[m], e1, h9, e6, f5, f6, f4, fun e => (h1.own _ (List.getElem_mem hkl)).2 g (by rw [f1]; rfl) (by rw [e1, e]; rfl), h.old.setCell f3 _, ⟨_, f7 _, h2.set hkl rfl, by rw [List.length_set]; exact h3, fun j hj hkj => ?_, fun hj _ => ?_⟩, ⟨pw, h6.same (by rw [World.size_setCell]; exact Nat.le_refl _) fun j hj _ => Below.heap_setCell _ _ _ _ (by show j ≠ g; omega), h7⟩, h.bz⟩
  · rw [List.getElem_set_ne (by omega)]
    exact h4 j (by simpa using hj) hkj
  · simp only [Nat.add_sub_cancel, List.getElem_set_self]
    show (pv[k].1.b.set m _).length = lk
    rw [List.length_set]
    exact hl

/-- Two pieces that are held one against the other. -/
theorem TwoCuts.pair {w wa wr : World} {zb : Nat} {i t : Int} {b : List UInt8} {sz : Nat} {ar br : Option Addr} {N c0 M c1 : Nat} {k lk : Nat} (h : TwoCuts w wa zb i t b sz (.slice ar N c0) (.slice br M c1) k lk wr) (hk : k < cutN b.length sz) {p : Pc} (hp : p = cutPc i t b sz k) :
    ∃ gr gs ua uc ua' uc', ar = some ⟨gr, 0, none⟩ ∧ br = some ⟨gs, 0, none⟩ ∧ gr < wr.heap.size ∧ gs < wr.heap.size ∧ N = cutN b.length sz ∧ M = cutN b.length sz ∧
      (wr.cell? ⟨gr, k * 6, none⟩ = some (.int .i64 p.idx) ∧ wr.cell? ⟨gr, k * 6 + 1, none⟩ = some (.int .i64 p.term) ∧ wr.cell? ⟨gr, k * 6 + 2, none⟩ = some (.int .u32 p.sum) ∧ wr.cell? ⟨gr, k * 6 + 3, none⟩ = some (.int .i64 p.tot) ∧ wr.cell? ⟨gr, k * 6 + 4, none⟩ = some (.int .i64 p.pos) ∧ wr.cell? ⟨gr, k * 6 + 5, none⟩ = some (.slice ua p.b.length uc)) ∧
      (wr.cell? ⟨gs, k * 6, none⟩ = some (.int .i64 p.idx) ∧ wr.cell? ⟨gs, k * 6 + 1, none⟩ = some (.int .i64 p.term) ∧ wr.cell? ⟨gs, k * 6 + 2, none⟩ = some (.int .u32 p.sum) ∧ wr.cell? ⟨gs, k * 6 + 3, none⟩ = some (.int .i64 p.tot) ∧ wr.cell? ⟨gs, k * 6 + 4, none⟩ = some (.int .i64 p.pos) ∧ wr.cell? ⟨gs, k * 6 + 5, none⟩ = some (.slice ua' p.b.length uc')) ∧
      RepB wr (fun j => j < wr.heap.size) p.b (.slice ua p.b.length uc) ∧ RepB wr (fun j => j < wr.heap.size) p.b (.slice ua' p.b.length uc') ∧ TwoCuts w wa zb i t b sz (.slice ar N c0) (.slice br M c1) (k + 1) p.b.length wr := by
  obtain ⟨pv, h1, h2, h3, h4, h5⟩ := h.one
  obtain ⟨pw, h6, h7⟩ := h.two
  have hkl : k < pv.length := by omega
  have hwl : pw.length = cutN b.length sz := by have := congrArg List.length h7; simpa [cutPcs] using this
  have hkw : k < pw.length := by omega
  obtain ⟨gr, e1, e2, -, -, -, e6, e7, e8⟩ := h1.elem k hkl
  obtain ⟨gs, f1, f2, -, -, -, f6, f7, f8⟩ := h6.elem k hkw
  have hp1 : pv[k].1 = p := by rw [hp]; exact h4 k hkl (Nat.le_refl _)
  have hp2 : pw[k].1 = p := by
    have := congrArg (fun l => l[k]?) h7
    simp only [List.getElem?_map] at this
    rw [List.getElem?_eq_getElem hkw, List.getElem?_eq_getElem (by rw [cutPcs_length]; exact hk), cutPcs_get] at this
    rw [hp]
    simpa using this
  rw [hp1] at e8
  rw [hp2] at f8
  obtain ⟨ua, uc, hu, -⟩ := e8.slice
  obtain ⟨ua', uc', hu', -⟩ := f8.slice
  unfold pvV at e7 f7
  rw [hp1, hu] at e7
  rw [hp2, hu'] at f7
  rw [hu] at e8
  rw [hu'] at f8
  refine ⟨gr, gs, ua, uc, ua', uc', e1, f1, e6, f6, by omega, by omega, ⟨e7 0 (by omega), e7 1 (by omega), e7 2 (by omega), e7 3 (by omega), e7 4 (by omega), e7 5 (by omega)⟩, ⟨f7 0 (by omega), f7 1 (by omega), f7 2 (by omega), f7 3 (by omega), f7 4 (by omega), f7 5 (by omega)⟩,
    e8.weak fun j hj => hj.2, f8.weak fun j hj => hj.2, h.old, ⟨pv, h1, h2, h3, fun j hj hkj => h4 j hj (by omega), fun hj _ => ?_⟩, h.two, h.bz⟩
  simp only [Nat.add_sub_cancel] at hj ⊢
  rw [hp1]
end Go.Proofs.YtdngfbljcmbniaaDoor.M

/- Part: ChR4. -/
namespace Go.Proofs.YtdngfbljcmbniaaDoor.M
open Go.RowKit Go.Maps

/-- The document's heap: its own blocks are Y, from z on. -/
def RH (Y : Nat → Prop) (z gr : Nat) (most : Int) (L : List Pc) (w : World) : Prop :=
  ∃ pv v, w.heap[gr]? = some (.cells #[.int .i64 most, v] 42) ∧ PcRow z pv v w ∧ pv.map (·.1) = L ∧
    (Y gr ∧ v.ownBlock ≠ some gr ∧ (∀ j, v.ownBlock = some j → Y j) ∧ ∀ x ∈ pv, ∀ j, x.2.ownBlock = some j → Y j ∧ j ≠ gr) ∧ ∀ j, Y j → z ≤ j ∧ j < w.heap.size

theorem PcRow.sameY {base : Nat} {pv : List (Pc × Value)} {v : Value} {W W' : World} (h : PcRow base pv v W) (hv : ∀ j, v.ownBlock = some j → W'.heap[j]? = W.heap[j]?) (hx : ∀ x ∈ pv, ∀ j, x.2.ownBlock = some j → W'.heap[j]? = W.heap[j]?) : PcRow base pv v W' :=
  ⟨own_same7 h.row fun k _ _ hk => hv k hk, fun x hxm => ⟨own_same7 (h.own x hxm).1 fun k _ _ hk => hx x hxm k hk, (h.own x hxm).2⟩, h.apart⟩

theorem RH.same {Y : Nat → Prop} {z gr : Nat} {most : Int} {L : List Pc} {w w' : World} (h : RH Y z gr most L w) (hz : w.heap.size ≤ w'.heap.size) (hs : ∀ j, Y j → w'.heap[j]? = w.heap[j]?) : RH Y z gr most L w' := by
  obtain ⟨pv, v, h1, h2, h3, ⟨h4, h5, h6, h7⟩, h8⟩ := h
  exact ⟨pv, v, (hs gr h4).trans h1, h2.sameY (fun j hj => hs j (h6 j hj)) (fun x hx j hj => hs j (h7 x hx j hj).1), h3, ⟨h4, h5, h6, h7⟩, fun j hj => ⟨(h8 j hj).1, Nat.lt_of_lt_of_le (h8 j hj).2 hz⟩⟩

theorem RH.next {Y : Nat → Prop} {z gr : Nat} {most : Int} {L : List Pc} {w w' : World} (h : RH Y z gr most L w) (hb : Below w.heap.size w w') : RH Y z gr most L w' := by
  have h' := h
  obtain ⟨pv, v, h1, h2, h3, h4, h8⟩ := h'
  exact h.same hb.size fun j hj => hb.block j (h8 j hj).2

theorem RH.new {w : World} {z gr : Nat} {most : Int} (hg : w.heap[gr]? = some (.cells #[.int .i64 most, .slice none 0 0] 42)) (hz : z ≤ gr) : RH (fun j => j = gr) z gr most [] w :=
  ⟨[], _, hg, PcRow.nil _ _, rfl, ⟨rfl, (fun h => by cases h), (fun j h => by cases h), fun x hx => by cases hx⟩, fun j hj => by rw [hj]; exact ⟨hz, lt_of_heap hg⟩⟩

theorem byteL_drop (L : List Pc) (i : Nat) (hi : i < L.length) (k : Nat) : byteL (L.drop i) k = if L[i].pos.toNat ≤ k ∧ k < L[i].pos.toNat + L[i].b.length then L[i].b[k - L[i].pos.toNat]? else byteL (L.drop (i + 1)) k := by
  rw [List.drop_eq_getElem_cons hi]
  rfl

/-- The cells of the heap, and of a piece of it. -/
theorem RH.cells {Y : Nat → Prop} {z gr : Nat} {most : Int} {L : List Pc} {w : World} (h : RH Y z gr most L w) : ∃ a c, (w.cell? ⟨gr, 0, none⟩ = some (.int .i64 most) ∧ w.cell? ⟨gr, 1, none⟩ = some (.slice a L.length c) ∧ gr < w.heap.size) ∧
    ∀ i (hi : i < L.length), ∃ g ua uc, a = some ⟨g, 0, none⟩ ∧ L.length ≤ c ∧ g < w.heap.size ∧ (w.cell? ⟨g, i * 6, none⟩ = some (.int .i64 L[i].idx) ∧ w.cell? ⟨g, i * 6 + 1, none⟩ = some (.int .i64 L[i].term) ∧ w.cell? ⟨g, i * 6 + 2, none⟩ = some (.int .u32 L[i].sum) ∧ w.cell? ⟨g, i * 6 + 3, none⟩ = some (.int .i64 L[i].tot) ∧ w.cell? ⟨g, i * 6 + 4, none⟩ = some (.int .i64 L[i].pos) ∧ w.cell? ⟨g, i * 6 + 5, none⟩ = some (.slice ua L[i].b.length uc)) ∧
      RepB w (fun j => j < w.heap.size) L[i].b (.slice ua L[i].b.length uc) := by
  obtain ⟨pv, v, h1, h2, h3, -, -⟩ := h
  obtain ⟨a, c, rfl⟩ := h2.slice
  have hl : L.length = pv.length := by rw [← h3, List.length_map]
  refine ⟨a, c, ⟨cell_of_row _ _ 0 _ _ _ h1, by rw [hl]; exact cell_of_row _ _ 1 _ _ _ h1, lt_of_heap h1⟩, fun i hi => ?_⟩
  obtain ⟨g, e1, -, e3, -, -, e6, e7, e8⟩ := h2.elem i (by omega)
  have hp : pv[i].1 = L[i] := by subst h3; simp
  rw [hp] at e8
  obtain ⟨ua, uc, hu, -⟩ := e8.slice
  unfold pvV at e7
  rw [hp, hu] at e7
  rw [hu] at e8
  exact ⟨g, ua, uc, e1, by omega, e6, ⟨e7 0 (by omega), e7 1 (by omega), e7 2 (by omega), e7 3 (by omega), e7 4 (by omega), e7 5 (by omega)⟩, e8.weak fun j hj => hj.2⟩
end Go.Proofs.YtdngfbljcmbniaaDoor.M
