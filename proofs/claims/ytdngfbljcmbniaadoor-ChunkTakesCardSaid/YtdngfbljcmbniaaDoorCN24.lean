/- Slices of pieces, and of bools, as they come in. Whatever pieces a heap is given: each answer is the document's. -/
import Derived.Test.YtdngfbljcmbniaaDoorCN13
import Derived.Test.YtdngfbljcmbniaaDoorCN23
import Derived.ProofKit
import Derived.OpenShut
import Derived.ChangeSame
import Derived.Test.YtdngfbljcmbniaaDoorCN21
import Derived.Test.YtdngfbljcmbniaaDoorCN22
import Derived.Deep.CutRange
/- Part: OpenPieces. -/
namespace Go.Proofs.YtdngfbljcmbniaaDoor.M
open Go.RowKit Go.ChangeShapes Go.WideShapes Go.ChangeAt

/-- The numbers of a piece as they come in. -/
def In7 (p : Pc) : Prop := (-9223372036854775808 ≤ p.idx ∧ p.idx ≤ 9223372036854775807) ∧ (-9223372036854775808 ≤ p.term ∧ p.term ≤ 9223372036854775807) ∧ (0 ≤ p.sum ∧ p.sum ≤ 4294967295) ∧ (-9223372036854775808 ≤ p.tot ∧ p.tot ≤ 9223372036854775807) ∧ (-9223372036854775808 ≤ p.pos ∧ p.pos ≤ 9223372036854775807)

/-- Bools in memory. -/
def RepBo (w : World) (F : Nat → Prop) (l : List Bool) (v : Value) : Prop :=
  (l = [] ∧ Bare v) ∨ ∃ b off c, v = .slice (some ⟨b, off, none⟩) l.length c ∧ F b ∧ l.length ≤ c ∧ c ≤ 9223372036854775807 ∧ ∀ (i : Nat) (h : i < l.length), w.cell? ⟨b, off + i, none⟩ = some (.bool l[i])

theorem RepBo.slice {w : World} {F : Nat → Prop} {l : List Bool} {v : Value} (h : RepBo w F l v) : ∃ a c, v = .slice a l.length c ∧ l.length ≤ 9223372036854775807 := by
  rcases h with ⟨rfl, a, c, rfl, -⟩ | ⟨b, off, c, rfl, -, h1, h2, -⟩
  · exact ⟨a, c, rfl, by simp⟩
  · exact ⟨_, c, rfl, by omega⟩

theorem RepBo.elem {w : World} {F : Nat → Prop} {l : List Bool} {a : Option Addr} {n c : Nat} (h : RepBo w F l (.slice a n c)) (i : Nat) (hi : i < l.length) : ∃ b off, a = some ⟨b, off, none⟩ ∧ F b ∧ w.cell? ⟨b, off + i, none⟩ = some (.bool l[i]) := by
  rcases h with ⟨rfl, -⟩ | ⟨b, off, c', h, hb, -, -, hc⟩
  · simp at hi
  · cases h
    exact ⟨b, off, rfl, hb, hc i hi⟩

variable {H : Type} {enc : TypeId × Value → H} {w : World}

set_option maxRecDepth 20000 in
theorem piece_of_trod {n : Nat} {cs : List Value} {x : DataW H × List MemPlace} (h : DataW.trod enc Tryd.prog w 0 (fun _ => true) true n 35 cs = some x) :
    ∃ (p : Pc) (u : Value), cs = pcV p u ∧ RepB w (fun b => b < w.heap.size) p.b u ∧ In7 p := by
  cases n with
  | zero => simp [DataW.trod] at h
  | succ n =>
    obtain ⟨xs, m, hm, hx, hl, hxs, hg⟩ := DataW.trod_struct Tryd.underlying35 h
    obtain rfl : n = m := by omega
    rw [show Tryd.prog.cellsOf 35 = 6 from by kernel_rfl] at hl
    have h0 := hg 0 _ rfl
    have h1 := hg 1 _ rfl
    have h2 := hg 2 _ rfl
    have h3 := hg 3 _ rfl
    have h4 := hg 4 _ rfl
    match cs, hl with
    | [c0, c1, c2, c3, c4, c5], _ =>
      match xs, hxs with
      | [y0, y1, y2, y3, y4], _ =>
        replace h0 : DataW.trod enc Tryd.prog w 0 (fun _ => true) true n 23 (List.take (Tryd.prog.cellsOf 23) (List.drop 0 [c0, c1, c2, c3, c4, c5])) = some y0 := h0
        rw [show Tryd.prog.cellsOf 23 = 2 from by kernel_rfl] at h0
        replace h0 : DataW.trod enc Tryd.prog w 0 (fun _ => true) true n 23 [c0, c1] = some y0 := h0
        replace h1 : DataW.trod enc Tryd.prog w 0 (fun _ => true) true n 33 (List.take (Tryd.prog.cellsOf 33) (List.drop 2 [c0, c1, c2, c3, c4, c5])) = some y1 := h1
        rw [show Tryd.prog.cellsOf 33 = 1 from by kernel_rfl] at h1
        replace h1 : DataW.trod enc Tryd.prog w 0 (fun _ => true) true n 33 [c2] = some y1 := h1
        replace h2 : DataW.trod enc Tryd.prog w 0 (fun _ => true) true n 3 (List.take (Tryd.prog.cellsOf 3) (List.drop 3 [c0, c1, c2, c3, c4, c5])) = some y2 := h2
        rw [show Tryd.prog.cellsOf 3 = 1 from by kernel_rfl] at h2
        replace h2 : DataW.trod enc Tryd.prog w 0 (fun _ => true) true n 3 [c3] = some y2 := h2
        replace h3 : DataW.trod enc Tryd.prog w 0 (fun _ => true) true n 3 (List.take (Tryd.prog.cellsOf 3) (List.drop 4 [c0, c1, c2, c3, c4, c5])) = some y3 := h3
        rw [show Tryd.prog.cellsOf 3 = 1 from by kernel_rfl] at h3
        replace h3 : DataW.trod enc Tryd.prog w 0 (fun _ => true) true n 3 [c4] = some y3 := h3
        replace h4 : DataW.trod enc Tryd.prog w 0 (fun _ => true) true n 24 (List.take (Tryd.prog.cellsOf 24) (List.drop 5 [c0, c1, c2, c3, c4, c5])) = some y4 := h4
        rw [show Tryd.prog.cellsOf 24 = 1 from by kernel_rfl] at h4
        replace h4 : DataW.trod enc Tryd.prog w 0 (fun _ => true) true n 24 [c5] = some y4 := h4
        obtain ⟨L1, v1, hv1, hB1, -, -⟩ := bytes_of_trod2 h4
        obtain ⟨z0, z1, k, -, -, g0, g1⟩ := trod_struct2 Tryd.underlying23 h0
        have hc : Tryd.prog.cellsOf 3 = 1 := by kernel_rfl
        simp only [hc, List.drop_zero, List.take_succ_cons, List.take_zero, List.drop_succ_cons] at g0 g1
        obtain ⟨i, e0, -, b0⟩ := DataW.trod_int Tryd.underlying3 g0
        obtain ⟨t, e1, -, b1⟩ := DataW.trod_int Tryd.underlying3 g1
        obtain ⟨s, e2, -, b2⟩ := DataW.trod_int Tryd.underlying33 h1
        obtain ⟨o, e3, -, b3⟩ := DataW.trod_int Tryd.underlying3 h2
        obtain ⟨q, e4, -, b4⟩ := DataW.trod_int Tryd.underlying3 h3
        cases e0; cases e1; cases e2; cases e3; cases e4; cases hv1
        exact ⟨⟨i, t, s, o, q, L1⟩, _, rfl, hB1, bounds_i64 b0, bounds_i64 b1, bounds_u32 b2, bounds_i64 b3, bounds_i64 b4⟩

set_option maxRecDepth 20000 in
theorem pieces_of_trod {n : Nat} {cs : List Value} {x : DataW H × List MemPlace} (h : DataW.trod enc Tryd.prog w 0 (fun _ => true) true (n + 1) 26 cs = some x) :
    ∃ l v, cs = [v] ∧ RepPs w (fun b => b < w.heap.size) l v ∧ l.length ≤ 9223372036854775807 ∧ ∀ p ∈ l, In7 p := by
  rcases DataW.trod_slice Tryd.underlying26 h with ⟨rfl, -⟩ | ⟨a, len, cap, elems, rest, m, hm, rfl, hx, -, hl, hc, hel, hrd, hsp, -⟩
  · exact ⟨[], _, rfl, .inl ⟨rfl, _, _, rfl⟩, by simp, fun p hp => by cases hp⟩
  · obtain rfl : n = m := by omega
    unfold maxLen at hc
    rw [show Tryd.prog.cellsOf 35 = 6 from by kernel_rfl] at hrd hsp
    obtain ⟨hrl, hsp⟩ := hsp rfl
    by_cases h0 : cap = 0
    · obtain rfl : len = 0 := by omega
      exact ⟨[], _, rfl, .inl ⟨rfl, _, _, rfl⟩, by simp, fun p hp => by cases hp⟩
    · have hat : ∃ cs', w.cells? 0 (a.add (0 * 6)) 6 = some cs' := by
        by_cases h1 : len = 0
        · have h2 := hsp 0 (by omega)
          rw [List.getElem?_eq_getElem (by omega)] at h2
          obtain ⟨cs', h3, _⟩ := Option.bind_eq_some_iff.1 h2
          exact ⟨cs', by rw [h1] at h3; exact h3⟩
        · have h2 := hrd 0 (by omega)
          rw [List.getElem?_eq_getElem (by omega)] at h2
          obtain ⟨cs', h3, _⟩ := Option.bind_eq_some_iff.1 h2
          exact ⟨cs', h3⟩
      obtain ⟨cs', hat⟩ := hat
      obtain ⟨_, hcl, hcg⟩ := World.cells?_some hat
      have hc0 := hcg 0 (by omega)
      rw [List.getElem?_eq_getElem (by omega)] at hc0
      obtain ⟨hb, hs⟩ := lt_of_cell hc0
      obtain ⟨b, off, sp⟩ := a
      replace hb : b < w.heap.size := hb
      replace hs : sp = none := hs
      subst hs
      obtain ⟨l, hll, hR⟩ := list_of (R := fun i (p : Pc) => (∃ u, (∀ t, t < 6 → w.cell? ⟨b, off + i * 6 + t, none⟩ = (pcV p u)[t]?) ∧ RepB w (fun b => b < w.heap.size) p.b u) ∧ In7 p) len fun i hi => by
        have h2 := hrd i hi
        rw [List.getElem?_eq_getElem (by omega)] at h2
        obtain ⟨cs', h3, h4⟩ := Option.bind_eq_some_iff.1 h2
        obtain ⟨p, u, rfl, hu, hp⟩ := piece_of_trod h4
        obtain ⟨_, _, h5⟩ := World.cells?_some h3
        rw [addr_add] at h5
        refine ⟨p, ⟨u, fun t ht => ?_, hu⟩, hp⟩
        have g := h5 t (by omega)
        rw [addr_add] at g
        exact g
      subst hll
      refine ⟨l, _, rfl, .inr ⟨b, off, cap, rfl, hb, hl, hc, fun i hi => (hR i hi).1⟩, by omega, fun p hp => ?_⟩
      obtain ⟨i, hi, rfl⟩ := List.getElem_of_mem hp
      exact (hR i hi).2

set_option maxRecDepth 20000 in
theorem pieces_in {base : Nat} {v : Value} {d : DataW H} {p : List MemPlace} (h : DataW.Trod enc Tryd.prog w 0 (fun _ => true) true 26 v d p) (hk : Value.okWide Tryd.prog w .any base 26 v) :
    ∃ l, RepPs w (fun b => b < w.heap.size) l v ∧ l.length ≤ 9223372036854775807 ∧ ∀ p ∈ l, In7 p := by
  obtain ⟨a, n, c, rfl⟩ := okWide_slice Tryd.underlying26 hk
  obtain ⟨fuel, hf⟩ := h
  cases fuel with
  | zero => simp [DataW.trod] at hf
  | succ fuel =>
    obtain ⟨l, v, hv, hr⟩ := pieces_of_trod hf
    refine ⟨l, ?_⟩
    have e : [Value.slice a n c] = [v] := hv
    cases e
    exact hr

set_option maxRecDepth 20000 in
theorem bools_in {base : Nat} {v : Value} {d : DataW H} {p : List MemPlace} (h : DataW.Trod enc Tryd.prog w 0 (fun _ => true) true 37 v d p) (hk : Value.okWide Tryd.prog w .any base 37 v) :
    ∃ l, RepBo w (fun b => b < w.heap.size) l v := by
  obtain ⟨a, n, c, rfl⟩ := okWide_slice Tryd.underlying37 hk
  obtain ⟨fuel, hf⟩ := h
  cases fuel with
  | zero => simp [DataW.trod] at hf
  | succ fuel =>
    have hcb : Tryd.prog.cellsOf 4 = 1 := by kernel_rfl
    rcases DataW.trod_slice Tryd.underlying37 hf with ⟨he, -⟩ | ⟨a', len, cap, elems, rest, m, hm, he, hx, -, hl, hc, hel, hrd, hsp, -⟩
    · cases he
      exact ⟨[], .inl ⟨rfl, Bare.nil⟩⟩
    · cases he
      obtain rfl : fuel = m := by omega
      unfold maxLen at hc
      obtain ⟨hrl, hsp⟩ := hsp rfl
      by_cases h0 : c = 0
      · obtain rfl : n = 0 := by omega
        exact ⟨[], .inl ⟨rfl, Bare.at hc⟩⟩
      · obtain ⟨b, off, rfl, hb, l, hll, hR⟩ := slice1 (t := 37) (R := fun _ v d => v = .bool d) hcb hl hel h0 hrd hrl hsp fun i v y hi hy hv => by
          obtain ⟨z, e, -⟩ := DataW.trod_bool Tryd.underlying4 hv
          cases e
          exact ⟨z, rfl⟩
        subst hll
        refine ⟨l, .inr ⟨b, off, c, rfl, hb, hl, hc, fun i hi => ?_⟩⟩
        obtain ⟨v, h1, rfl⟩ := hR i hi
        exact h1
end Go.Proofs.YtdngfbljcmbniaaDoor.M

/- Part: LawChTakes. -/
namespace Go.Proofs.YtdngfbljcmbniaaDoor.M
open Go.RowKit Go.Maps

/-- What stands ahead of a round. -/
def TksAt (w : World) (g gr : Nat) (most : Int) (k : Nat) (L : List Pc) (wr : World) : Prop := (∃ X Y, ST7 w X Y g gr most L L wr) ∧ (∀ x ∈ L, Fine7 x) ∧ L.length ≤ k

/-- What stands while the law's own copy is turned. -/
def FlAt (w : World) (X Y : Nat → Prop) (g gr : Nat) (most : Int) (Lp Lr : List Pc) (gp z1 : Nat) (box : Obj) (va : Value) (nb : Nat) (wr : World) : Prop :=
  ST7 w X Y g gr most Lp Lr wr ∧ wr.heap[gp]? = some box ∧ ∃ B : List UInt8, B.length = nb ∧ wr.ownsRow z1 5 1 va B.length (B.map byteV)

theorem FlAt.next {w : World} {X Y : Nat → Prop} {g gr : Nat} {most : Int} {Lp Lr : List Pc} {gp z1 : Nat} {box : Obj} {va : Value} {nb : Nat} {wr w' : World} (h : FlAt w X Y g gr most Lp Lr gp z1 box va nb wr) (hb : Below wr.heap.size wr w') : FlAt w X Y g gr most Lp Lr gp z1 box va nb w' := by
  obtain ⟨h1, h2, B, h3, h4⟩ := h
  exact ⟨h1.next hb, old_below h2 hb, B, h3, own_same7 h4 fun k _ hk _ => hb.block k hk⟩

/-- One byte of the copy is turned. -/
theorem FlAt.turn {w : World} {X Y : Nat → Prop} {g gr : Nat} {most : Int} {Lp Lr : List Pc} {gp z1 z2 : Nat} {box : Obj} {va : Value} {nb : Nat} {wr : World} (h : FlAt w X Y g gr most Lp Lr gp z1 box va nb wr) (hva : ∀ j, va.ownBlock = some j → j < z2) (hfar : ∀ j, z1 ≤ j → j < z2 → (¬ X j ∧ j ≠ g) ∧ ¬ Y j) (hz1 : w.heap.size ≤ z1) (hgp : gp < z1) {m : Nat} (hm : m < nb) :
    ∃ gb c, ∃ x : UInt8, va = .slice (some ⟨gb, 0, none⟩) nb c ∧ nb ≤ c ∧ gb < wr.heap.size ∧ gp ≠ gb ∧ wr.cell? ⟨gb, m, none⟩ = some (.int .u8 (x.toNat : Int)) ∧ wr.frozen? ⟨gb, m, none⟩ = false ∧
      FlAt w X Y g gr most Lp Lr gp z1 box va nb (wr.setCell ⟨gb, m, none⟩ (.int .u8 ((x ^^^ 1).toNat : Int))) := by
  obtain ⟨h1, h2, B, h3, h4⟩ := h
  subst h3
  obtain ⟨gb, cap, rfl, hg, hcap⟩ : ∃ gb cap, va = .slice (some ⟨gb, 0, none⟩) B.length cap ∧ z1 ≤ gb ∧ B.length ≤ cap := by
    rcases h4.2 with ⟨e1, e2⟩ | ⟨gb, cap, cur, e1, e2, e3, e4, -⟩
    · omega
    · exact ⟨gb, cap, e1, e2, e4⟩
  have hgl := h4.lt gb rfl
  have hgz := hva gb rfl
  obtain ⟨⟨f1, f2⟩, f3⟩ := hfar gb hg hgz
  refine ⟨gb, cap, B[m], rfl, hcap, hgl.2, by omega, ?_, h4.frozenAt m, h1.far (by omega) ⟨f1, f2⟩ f3 _, old_set h2 (by show gp ≠ gb; omega), B.set m (B[m] ^^^ 1), by rw [List.length_set], ?_⟩
  · rw [h4.cellAt m (by omega)]
    simp [hm, byteV]
  · have := (h4.stored m (byteV (B[m] ^^^ 1))).1
    rw [List.length_set, List.map_set]
    exact this

set_option maxRecDepth 100000 in
set_option maxHeartbeats 16000000 in
theorem ChunkTakes_any (most : Int) (ps : List Pc) (dr : List Bool) (F : Nat → Prop) (v1 v2 : Value) (w : World) (h1 : RepPs w F ps v1) (h2 : RepBo w F dr v2) (hF : ∀ k, F k → k < w.heap.size) (hI : ∀ p ∈ ps, In7 p) (hT : Hid (Tab w)) (hTz : Hid (Tz w)) :
    Calls Tryd.prog 4 #[.int .i64 most, v1, v2] w fun e w' => e = .returned (.bool true) ∧ Below w.heap.size w w' := by
  obtain ⟨a1, c1, rfl⟩ := h1.slice
  obtain ⟨a2, c2, rfl, -⟩ := h2.slice
  obtain ⟨N, hN⟩ : ∃ N, N = ps.length := ⟨_, rfl⟩
  obtain ⟨M, hM⟩ : ∃ M, M = dr.length := ⟨_, rfl⟩
  have HAW : Hid (∀ W', Below w.heap.size w W' → Calls Tryd.prog 5 #[] W' fun e w' => e = .returned (.bool true) ∧ Below W'.heap.size W' w') := Lib.hid fun W' hb => awake7_any W' (Lib.hid (hT.out.next hb)) (Lib.hid (hTz.out.next hb))
  have HV1 := Lib.hid h1
  have HV2 := Lib.hid h2
  have HF := Lib.hid hF
  have HI := Lib.hid hI
  have HN := Lib.hid hN
  have HM := Lib.hid hM
  rw [← hN, ← hM]
  rw [← hN] at HV1
  rw [← hM] at HV2
  clear hN hM h1 h2 hF hI
  by_cases b1 : 30 < N
  · have q1 : decide ((N : Int) > 30) = true := decide_eq_true (by omega)
    go_enter Tryd.func4, Tryd.ntmps4
    go_wp2_with fail
    refine (HAW.out w (Below.refl _ _)).mono ?_
    rintro e w1 ⟨rfl, hb1⟩
    have HB1 : Hid (Below w.heap.size w w1) := Lib.hid hb1
    clear hb1
    go_wp2_with fail
    refine (HAW.out w1 HB1.out).mono ?_
    rintro e w2 ⟨rfl, hb2⟩
    have HB2 : Hid (Below w.heap.size w w2) := Lib.hid (HB1.out.trans (hb2.mono HB1.out.size))
    clear hb2
    go_wp2_with fail
    go_ret
    exact ⟨rfl, HB2.out⟩
  · have q1 : decide ((N : Int) > 30) = false := decide_eq_false (by omega)
    go_enter Tryd.func4, Tryd.ntmps4
    go_wp2_with fail
    refine (HAW.out w (Below.refl _ _)).mono ?_
    rintro e w1 ⟨rfl, hb1⟩
    have HB1 : Hid (Below w.heap.size w w1) := Lib.hid hb1
    clear hb1
    go_wp2_with fail
    refine (New_any most w1).mono ?_
    rintro e w2 ⟨g, rfl, hb2, hg2, hh2⟩
    have HB2 : Hid (Below w.heap.size w w2) := Lib.hid (HB1.out.trans (hb2.mono HB1.out.size))
    have HHP : Hid (HP w w.heap.size (fun _ => False) g most [] w2) := Lib.hid (HP.new HB2.out (Nat.le_refl _) (Nat.le_trans HB1.out.size hg2) hh2)
    clear hb2 hg2 hh2
    go_wp2_with fail
    have HS0 : Hid (TksAt w g w2.heap.size most 0 [] (w2.alloc (.cells #[.int .i64 most, .slice none 0 0] 42))) := Lib.hid ⟨⟨_, _, ⟨HHP.out.next (below_alloc _ _), RH.new (heap_new _ _ _ rfl) HB2.out.size, fun j hj => ⟨fun h => h, by rw [hj]; have := HHP.out.lt.2; omega⟩⟩⟩, (fun x hx => by cases hx), Nat.le_refl _⟩
    obtain ⟨gr, hgr⟩ : ∃ gr, gr = w2.heap.size := ⟨_, rfl⟩
    rw [← hgr] at HS0 ⊢
    clear hgr HHP
    go_loopg [9, 10, 11, 12, 13, 14, 15, 16, 17, 18, 19] N (fun gk iv _ _ _ _ _ _ _ _ _ _ wr => ∃ (k : Nat) (L : List Pc), k + gk = N ∧ iv = .int .i64 (k : Int) ∧ Hid (TksAt w g gr most k L wr))
    case atStart => exact ⟨0, [], by omega, rfl, HS0⟩
    case round =>
      obtain ⟨k, L, hgk, rfl, HS⟩ := hrel
      by_cases hlt : k < N
      · have hkk : (k : Int) < (N : Int) := by omega
        obtain ⟨⟨X, Y, hst⟩, hfn, hll⟩ := HS.out
        have HST := Lib.hid hst
        have HFN := Lib.hid hfn
        have HLL := Lib.hid hll
        have HBW := Lib.hid hst.hp.below
        have hkp : k < ps.length := by rw [← HN.out]; exact hlt
        obtain ⟨bb, off, u, rfl, hFb, hcs, hu⟩ := HV1.out.elem k hkp
        obtain ⟨p, hp⟩ : ∃ p, p = ps[k] := ⟨_, rfl⟩
        rw [← hp] at hcs hu
        have hin : In7 p := by rw [hp]; exact HI.out _ (List.getElem_mem hkp)
        obtain ⟨ua, uc, rfl, -⟩ := hu.slice
        obtain ⟨nb, hnb⟩ : ∃ nb, nb = p.b.length := ⟨_, rfl⟩
        have HCS : Hid (∀ W', Below w.heap.size w W' → (W'.cell? ⟨bb, off + k * 6, none⟩ = some (.int .i64 p.idx) ∧ W'.cell? ⟨bb, off + k * 6 + 1, none⟩ = some (.int .i64 p.term) ∧ W'.cell? ⟨bb, off + k * 6 + 2, none⟩ = some (.int .u32 p.sum) ∧ W'.cell? ⟨bb, off + k * 6 + 3, none⟩ = some (.int .i64 p.tot) ∧ W'.cell? ⟨bb, off + k * 6 + 4, none⟩ = some (.int .i64 p.pos) ∧ W'.cell? ⟨bb, off + k * 6 + 5, none⟩ = some (.slice ua nb uc)) ∧ bb < W'.heap.size) := Lib.hid fun W' hb => by
          have hcw := fun t ht => (World.cell?_of_block (a := ⟨bb, off + k * 6 + t, none⟩) (hb.block bb (lt_of_cell (hcs 0 (by omega))).1)).trans (hcs t ht)
          have d0 := hcw 0 (by omega)
          have d1 := hcw 1 (by omega)
          have d2 := hcw 2 (by omega)
          have d3 := hcw 3 (by omega)
          have d4 := hcw 4 (by omega)
          have d5 := hcw 5 (by omega)
          simp only [pcV, List.getElem?_cons_zero, List.getElem?_cons_succ, Nat.add_zero] at d0 d1 d2 d3 d4 d5
          rw [← hnb] at d5
          exact ⟨⟨d0, d1, d2, d3, d4, d5⟩, (lt_of_cell d0).1⟩
        have HU : Hid (RepB w F p.b (.slice ua nb uc)) := Lib.hid (by rw [hnb]; exact hu)
        have HNB := Lib.hid hnb
        have HIN := Lib.hid hin
        obtain ⟨⟨d0, d1, d2, d3, d4, d5⟩, dz⟩ := HCS.out wr HBW.out
        clear hst hfn hll hkp hFb hcs hu hp hin hnb HS
        by_cases hb2 : 200 < nb
        · have q2 : decide ((nb : Int) > 200) = true := decide_eq_true (by omega)
          go_wp2_with fail
          go_ret
          exact ⟨rfl, HBW.out⟩
        · have q2 : decide ((nb : Int) > 200) = false := decide_eq_false (by omega)
          by_cases hb3 : 500 < p.tot
          · have q3 : decide (p.tot > 500) = true := decide_eq_true hb3
            go_wp2_with fail
            go_ret
            exact ⟨rfl, HBW.out⟩
          · have q3 : decide (p.tot > 500) = false := decide_eq_false hb3
            have HPT : Hid (p.tot ≤ 500 ∧ nb ≤ 200) := Lib.hid ⟨by omega, by omega⟩
            go_upto_region 11 with fail
            obtain ⟨dk, hdk⟩ : ∃ dk : Bool, dk = dr.getD k false := ⟨_, rfl⟩
            have HDK := Lib.hid hdk
            clear hdk
            go_cut [65] from 35 to 169 (fun bv w' => bv = .bool dk ∧ w' = wr)
            case first =>
              by_cases hkm : k < M
              · have q4 : (k : Int) < (M : Int) := by omega
                have hkd : k < dr.length := by rw [← HM.out]; exact hkm
                obtain ⟨bo, oo, rfl, hFo, hco⟩ := HV2.out.elem k hkd
                have hco2 : wr.cell? ⟨bo, oo + k, none⟩ = some (.bool dk) := by
                  have h9 : dr[k] = dk := by rw [HDK.out, List.getD_eq_getElem?_getD, List.getElem?_eq_getElem hkd]; rfl
                  rw [h9] at hco
                  exact (HBW.out.cell (p := ⟨bo, oo + k, none⟩) (lt_of_cell hco).1).trans hco
                have hbo := (lt_of_cell hco2).1
                clear hco
                go_wp2_with fail
                go_meet
                case rel => exact ⟨rfl, rfl⟩
              · have q4 : decide ((k : Int) < (M : Int)) = false := decide_eq_false (by omega)
                have hd0 : dk = false := by
                  rw [HDK.out, List.getD_eq_getElem?_getD, List.getElem?_eq_none (by rw [← HM.out]; omega)]
                  rfl
                subst hd0
                go_wp2_with fail
                go_meet
                case rel => exact ⟨rfl, rfl⟩
            case rest =>
              obtain ⟨rfl, hwc⟩ := hcut
              obtain rfl : wr = wc := hwc.symm
              clear d0 d1 d2 d3 d4 d5 dz
              go_upto_if 65 with fail
              go_cut [] from 35 to 169 (fun w' => Hid (TksAt w g gr most k (if dk then [] else L) w'))
              case first =>
                cases dk with
                | false =>
                  go_wp2_with fail
                  go_meet
                  case rel => exact Lib.hid ⟨⟨X, Y, HST.out⟩, HFN.out, HLL.out⟩
                | true =>
                  have HD := Lib.hid HST.out.drop1
                  go_wp2_with (go_at_call 10; refine (HD.out).mono ?_; rintro e w4 ⟨rfl, hs4⟩; obtain ⟨_, _, hg4, -⟩ := hs4.rh; have c4 := cell_of_row _ _ 1 _ _ _ hg4; have f4 := frozen_of_row _ _ 1 _ _ hg4; have z4 := lt_of_heap hg4; have HS4 := Lib.hid hs4; clear hs4 hg4)
                  go_meet
                  case rel => exact Lib.hid ⟨⟨_, _, HS4.out.drop2⟩, (fun x hx => by cases hx), Nat.zero_le _⟩
              case rest =>
                have HS := hcut
                obtain ⟨w3, hw3⟩ : ∃ x : World, x = wc := ⟨_, rfl⟩
                subst hw3
                obtain ⟨L0, hL0⟩ : ∃ L0, L0 = (if dk then [] else L) := ⟨_, rfl⟩
                rw [← hL0] at HS
                clear hcut hL0 HST HFN HLL HDK
                obtain ⟨⟨X0, Y0, hst⟩, hfn, hll⟩ := HS.out
                have HST := Lib.hid hst
                have HFN := Lib.hid hfn
                have HLL := Lib.hid hll
                have HB3 := Lib.hid hst.hp.below
                obtain ⟨⟨d0, d1, d2, d3, d4, d5⟩, dz⟩ := HCS.out w3 hst.hp.below
                have HBB : Hid (RepB ((w3.alloc (.cells #[.int .i64 p.idx, .int .i64 p.term, .int .u32 p.sum, .int .i64 p.tot, .int .i64 p.pos, .slice ua nb uc] 35)).alloc (.cells #[] 5)) F p.b (.slice ua nb uc)) := Lib.hid (HU.out.same (fun _ h => h) fun j hj => by
                  have hjl : j < w3.heap.size := Nat.lt_of_lt_of_le (HF.out j hj) hst.hp.below.size
                  rw [Below.heap_alloc _ _ _ (by simp; omega), Below.heap_alloc _ _ _ hjl, hst.hp.below.block j (HF.out j hj)])
                clear hst hfn hll HS
                go_wp2_with (at_builtin; go_loud (refine wpList_own_append (w := w3.alloc (.cells #[.int .i64 p.idx, .int .i64 p.term, .int .u32 p.sum, .int .i64 p.tot, .int .i64 p.pos, .slice ua nb uc] 35)) rfl (.tmp 75) (.tmp 80) rfl rfl (L := []) (L2 := p.b) rfl (Own.lit (Below.refl _ _) (by simp)) rfl HBB.out (by have := HNB.out; have := HPT.out; simp; omega) ?_))
                intro v5 w5 hown
                obtain ⟨a5, c5, rfl⟩ := hown.slice
                rw [← HNB.out] at hown ⊢
                have hx5 : w5.heap[w3.heap.size]? = some (.cells #[.int .i64 p.idx, .int .i64 p.term, .int .u32 p.sum, .int .i64 p.tot, .int .i64 p.pos, .slice ua nb uc] 35) := old_below (heap_new w3 _ _ rfl) hown.1
                obtain ⟨y0, y1, y2, y3, y4, y5, yz⟩ := six_cells hx5
                have yf5 := frozen_of_row _ _ 5 _ _ hx5
                obtain ⟨gp, hgp⟩ : ∃ gp, gp = w3.heap.size := ⟨_, rfl⟩
                obtain ⟨W6, hW6⟩ : ∃ W6, W6 = w5.setCell ⟨gp, 5, none⟩ (.slice a5 nb c5) := ⟨_, rfl⟩
                have hz6 : W6.heap.size = w5.heap.size := by rw [hW6]; simp
                have hb6 : Below w3.heap.size w3 W6 := by rw [hW6]; exact ((below_alloc w3 _).trans (hown.1.mono (by simp))).setCell (by show w3.heap.size ≤ gp; omega) _
                have hoth : ∀ j, j ≠ gp → W6.heap[j]? = w5.heap[j]? := fun j hj => by rw [hW6]; exact Below.heap_setCell _ _ _ _ hj
                have hx6 : W6.heap[gp]? = some (.cells #[.int .i64 p.idx, .int .i64 p.term, .int .u32 p.sum, .int .i64 p.tot, .int .i64 p.pos, .slice a5 nb c5] 35) := by
                  have h9 := hx5
                  rw [← hgp] at h9
                  rw [hW6]
                  simp [World.setCell, Array.getElem?_modify, h9]
                have hrow6 : W6.ownsRow (gp + 1) 5 1 (.slice a5 nb c5) p.b.length (p.b.map byteV) := by
                  have h9 := hown.2
                  rw [show (w3.alloc (.cells #[.int .i64 p.idx, .int .i64 p.term, .int .u32 p.sum, .int .i64 p.tot, .int .i64 p.pos, .slice ua nb uc] 35)).heap.size = gp + 1 from by rw [hgp]; simp] at h9
                  exact own_same7 h9 fun j h1 _ _ => hoth j (by omega)
                have HROW := Lib.hid hrow6
                have HX6 := Lib.hid hx6
                have HB6 := Lib.hid hb6
                have HGP := Lib.hid hgp
                have htk := (HST.out.take1 hT hTz hb6 p _ (RepB.of_own (by rw [← HNB.out] at hrow6; rw [← HNB.out]; exact hrow6) : RepB W6 _ p.b (.slice a5 nb c5)) (fun j hj => ⟨hj.2, by omega⟩) (by have := HPT.out; have := HNB.out; have := HIN.out.2.2.1; exact ⟨by omega, by omega, this.1⟩) (by have := HLL.out; omega))
                rw [hz6] at htk
                obtain ⟨er, her⟩ : ∃ er, er = (takeE most L0 p).1 := ⟨_, rfl⟩
                obtain ⟨L7, hL7⟩ : ∃ L7, L7 = (takeE most L0 p).2 := ⟨_, rfl⟩
                rw [← her, ← hL7] at htk
                have HTK := Lib.hid htk
                have HER := Lib.hid her
                have HL7 := Lib.hid hL7
                have HVA : Hid (∀ j, (Value.slice a5 nb c5).ownBlock = some j → j < w5.heap.size) := Lib.hid fun j hj => by have := (hrow6.lt j hj).2; omega
                have HW6 := Lib.hid hW6
                have HZ6 := Lib.hid hz6
                rw [← hgp] at y0 y1 y2 y3 y4 y5 yz yf5
                clear hown hx5 hgp hW6 hz6 hb6 hoth hx6 hrow6 d0 d1 d2 d3 d4 d5 dz htk her hL7
                rw [← HGP.out]
                obtain ⟨wb, hwb⟩ : ∃ wb, wb = wholeB L7 := ⟨_, rfl⟩
                have HWB := Lib.hid hwb
                rw [← hwb] at HTK
                clear hwb
                go_wp2_with (go_at_call 11; rw [← HW6.out]; refine (HTK.out).mono ?_; rintro e w7 ⟨rfl, ho7, X7, hs7, hX7⟩; have HO7 := Lib.hid ho7; have HS7 := Lib.hid hs7; have HX7 := Lib.hid hX7; clear ho7 hs7 hX7)
                obtain ⟨box, hbox⟩ : ∃ box, box = Obj.cells #[.int .i64 p.idx, .int .i64 p.term, .int .u32 p.sum, .int .i64 p.tot, .int .i64 p.pos, .slice a5 nb c5] 35 := ⟨_, rfl⟩
                have HFAR : Hid (∀ j, gp + 1 ≤ j → j < w5.heap.size → (¬ X7 j ∧ j ≠ g) ∧ ¬ Y0 j) := Lib.hid fun j h1 h2 => by
                  have h3 := HST.out.hp.lt
                  have h4 := HGP.out
                  refine ⟨⟨fun h5 => ?_, fun e => by have := h3.2; omega⟩, fun h5 => by have := (HST.out.rh.lt j h5).2; omega⟩
                  rcases HX7.out j h5 with h6 | h6
                  · have := h3.1 j h6; omega
                  · omega
                have HFL : Hid (FlAt w X7 Y0 g gr most L7 L0 gp (gp + 1) box (.slice a5 nb c5) nb w7) := Lib.hid (by
                  have h3 := HST.out.hp.lt
                  have h4 := HGP.out
                  refine ⟨HS7.out, ?_, p.b, HNB.out.symm, own_same7 HROW.out fun j h1 h2 _ => HO7.out.block j h2 ?_⟩
                  · rw [hbox]
                    refine (HO7.out.block gp (lt_of_heap HX6.out) ?_).trans HX6.out
                    rintro (h5 | h5)
                    · have := h3.1 gp h5; omega
                    · omega
                  · rintro (h5 | h5)
                    · have := h3.1 j h5; omega
                    · omega)
                have HBOX := Lib.hid hbox
                have HGW : Hid (w.heap.size ≤ gp) := Lib.hid (by rw [HGP.out]; exact HB3.out.size)
                clear y0 y1 y2 y3 y4 y5 yz yf5 hbox HTK HROW HX6 HB6
                go_wp2_with fail
                obtain ⟨go1, hgo⟩ : ∃ g, g = gk := ⟨_, rfl⟩
                have HGO : Hid (k + go1 = N ∧ go1 = gk) := Lib.hid ⟨by omega, hgo⟩
                clear hgo
                go_loopg [13] nb (fun gm mv wr => ∃ m : Nat, m + gm = nb ∧ mv = .int .i64 (m : Int) ∧ Hid (FlAt w X7 Y0 g gr most L7 L0 gp (gp + 1) box (.slice a5 nb c5) nb wr))
                case atStart => exact ⟨0, by omega, rfl, HFL⟩
                case round =>
                  obtain ⟨m, hgm, rfl, HFM⟩ := hrel
                  by_cases hml : m < nb
                  · have hmm : (m : Int) < (nb : Int) := by omega
                    obtain ⟨gb, cc, xb, hva, hcc, hgz, hne, hcb, hfz, hfl⟩ := HFM.out.turn HVA.out HFAR.out (by have := HGW.out; omega) (by omega) hml
                    cases hva
                    have hxp := HFM.out.2.1
                    rw [HBOX.out] at hxp
                    obtain ⟨-, -, -, -, -, z5, zz⟩ := six_cells hxp
                    have htn2 := hfl.next (Below.refl _ _).drew
                    rw [show ((xb ^^^ 1).toNat : Int) = ((xb.toNat ^^^ 1 : Nat) : Int) from by rw [UInt8.toNat_xor]; rfl] at htn2
                    have HTN := Lib.hid htn2
                    have hxr := turned1 xb
                    clear hfl htn2 hxp
                    go_upto_region 20 with fail
                    refine wp_region_held (S := fun w' => Only (fun j => j = gb) wr w') (by kernel_rfl) ?_
                    have hS : Only (fun j => j = gb) wr wr.drew := Only.of_below (Below.refl _ _).drew
                    have r5 := fun w' (hb : Only (fun j => j = gb) wr w') => (World.cell?_of_block (a := ⟨gp, 5, none⟩) (hb.block gp zz hne)).trans z5
                    refine H_take (i := 0) (v := ?_) rfl (by as_aux_lemma => kernel_rfl) (by as_aux_lemma => kernel_rfl) (by as_aux_lemma => kernel_rfl) (fun _ _ _ h => h) (by rfl) hS ?_ ?_
                    rotate_left
                    · intro w' hw'; go_simp; with_reducible rfl
                    go_simp
                    refine H_take (i := 1) (v := ?_) rfl (by as_aux_lemma => kernel_rfl) (by as_aux_lemma => kernel_rfl) (by as_aux_lemma => kernel_rfl) (fun _ _ _ h => h) (by rfl) hS ?_ ?_
                    rotate_left
                    · intro w' hw'; go_simp; with_reducible rfl
                    go_simp
                    refine H_take (i := 2) (v := ?_) rfl (by as_aux_lemma => kernel_rfl) (by as_aux_lemma => kernel_rfl) (by as_aux_lemma => kernel_rfl) (fun _ _ _ h => h) (by rfl) hS ?_ ?_
                    rotate_left
                    · intro w' hw'; go_simp; with_reducible rfl
                    go_simp
                    refine H_take (i := 3) (v := ?_) rfl (by as_aux_lemma => kernel_rfl) (by as_aux_lemma => kernel_rfl) (by as_aux_lemma => kernel_rfl) (fun _ _ _ h => h) (by rfl) hS ?_ ?_
                    rotate_left
                    · intro w' hw'; go_simp; with_reducible rfl
                    go_simp
                    refine H_take (i := 4) (v := ?_) rfl (by as_aux_lemma => kernel_rfl) (by as_aux_lemma => kernel_rfl) (by as_aux_lemma => kernel_rfl) (fun _ _ _ h => h) (by rfl) hS ?_ ?_
                    rotate_left
                    · intro w' hw'; go_simp; with_reducible rfl
                    go_simp
                    refine H_take (i := 5) (v := ?_) rfl (by as_aux_lemma => kernel_rfl) (by as_aux_lemma => kernel_rfl) (by as_aux_lemma => kernel_rfl) (fun _ _ _ h => h) (by rfl) hS ?_ ?_
                    rotate_left
                    · intro w' hw'; go_simp; with_reducible rfl
                    go_simp
                    refine H_take (i := 6) (v := ?_) rfl (by as_aux_lemma => kernel_rfl) (by as_aux_lemma => kernel_rfl) (by as_aux_lemma => kernel_rfl) (fun _ _ _ h => h) (by rfl) hS ?_ ?_
                    rotate_left
                    · intro w' hw'; go_simp; with_reducible rfl
                    go_simp
                    refine H_one (i := 7) (by as_aux_lemma => kernel_rfl) rfl (by rfl) ?_
                    go_simp
                    refine H_take (i := 8) (v := ?_) rfl (by as_aux_lemma => kernel_rfl) (by as_aux_lemma => kernel_rfl) (by as_aux_lemma => kernel_rfl) (fun _ _ _ h => h) (by rfl) hS ?_ ?_
                    rotate_left
                    · intro w' hw'; go_simp; with_reducible rfl
                    go_simp
                    refine H_take (i := 9) (v := ?_) rfl (by as_aux_lemma => kernel_rfl) (by as_aux_lemma => kernel_rfl) (by as_aux_lemma => kernel_rfl) (fun _ _ _ h => h) (by rfl) hS ?_ ?_
                    rotate_left
                    · intro w' hw'; go_simp; with_reducible rfl
                    go_simp
                    refine H_one (i := 10) (by as_aux_lemma => kernel_rfl) rfl (by rfl) ?_
                    go_simp
                    refine ⟨(Only.one _).next (Below.refl _ _).drew, ?_⟩
                    refine wpAnyH_done (by as_aux_lemma => kernel_rfl) ?_ _
                    go_wp2_with fail
                    go_roundg (gk - 1)
                    case measure => omega
                    case rel => exact ⟨m + 1, by omega, by push_cast; rfl, HTN⟩
                  · obtain rfl : m = nb := by omega
                    have hmm : ¬ (m : Int) < (m : Int) := by omega
                    have hxp := HFM.out.2.1
                    rw [HBOX.out] at hxp
                    obtain ⟨-, -, -, -, -, z5, zz⟩ := six_cells hxp
                    have HS8 := Lib.hid HFM.out.1
                    obtain ⟨⟨d0, d1, d2, d3, d4, d5⟩, dz⟩ := HCS.out wr HS8.out.hp.below
                    have ht2 := RefTake7_any Y0 w.heap.size gr most L0 p.idx p.term p.sum p.tot p.pos p.b F ua uc wr HS8.out.rh HS8.out.hp.below.size HFN.out (by rw [← HNB.out]; exact HU.out.same (fun _ h => h) fun j hj => HS8.out.hp.below.block j (HF.out j hj)) (fun j hj => ⟨Nat.lt_of_lt_of_le (HF.out j hj) HS8.out.hp.below.size, fun h9 => by have := (HS8.out.rh.lt j h9).1; have := HF.out j hj; omega⟩) (by have := HPT.out; have := HNB.out; omega) (by have := HLL.out; omega)
                    unfold pcAgg at ht2
                    simp only at ht2
                    rw [← HNB.out] at ht2
                    have HT2 := Lib.hid ht2
                    clear hxp ht2 HFM HFL
                    go_wp2_with fail
                    refine (HT2.out).mono ?_
                    rintro e w8 ht8
                    obtain ⟨he8, Y8, hs8⟩ := HS8.out.take2 (p := p) ht8
                    rw [← HER.out] at he8
                    rw [← HL7.out] at hs8
                    subst he8
                    have HS9 := Lib.hid hs8
                    have HF7 : Hid (∀ x ∈ L7, Fine7 x) := Lib.hid (by rw [HL7.out]; exact take_fine HFN.out HPT.out.1)
                    have HN7 : Hid (L7.length ≤ k + 1) := Lib.hid (by rw [HL7.out]; have := take_len most L0 p; have := HLL.out; omega)
                    have HWH := Lib.hid (RefWhole_any Y8 w.heap.size gr most L7 w8 hs8.rh (by have := HN7.out; omega) HF7.out)
                    clear ht8 hs8 d0 d1 d2 d3 d4 d5 dz z5 zz HT2 HS8 HFAR HVA HS7
                    go_wp2_with fail
                    refine (HWH.out).mono ?_
                    rintro e w9 ⟨aw, cw, rfl, hb9, hr9⟩
                    rw [← HWB.out]
                    have HB9 := Lib.hid hb9
                    have HRA := Lib.hid hr9
                    have HWP := Lib.hid (Whole_any X7 g most L7 w9 (HS9.out.next hb9).hp.heap.1 (fine_tot HF7.out))
                    clear hb9 hr9 HWH
                    go_wp2_with fail
                    refine (HWP.out).mono ?_
                    rintro e w10 ⟨aw', cw', rfl, hb10, hr10⟩
                    rw [← HWB.out]
                    have HB10 := Lib.hid hb10
                    have HRB := Lib.hid hr10
                    have HST10 := Lib.hid ((HS9.out.next HB9.out).next hb10)
                    obtain ⟨aL, cL, ⟨-, k1, kz⟩, hel⟩ := HST10.out.rh.cells
                    have HEL := Lib.hid hel
                    clear hb10 hr10 HWP HS9 hel
                    obtain ⟨lw, hlw⟩ : ∃ lw, lw = (wholeL L7).length := ⟨_, rfl⟩
                    have HLW := Lib.hid hlw
                    rw [← hlw]
                    obtain ⟨l7, hl7⟩ : ∃ l7, l7 = L7.length := ⟨_, rfl⟩
                    have HLN7 := Lib.hid hl7
                    rw [← hl7] at k1
                    clear hlw hl7
                    go_upto_if 129 with fail
                    obtain ⟨gm, hgm⟩ : ∃ gm, gm = w10.heap.size := ⟨_, rfl⟩
                    have HGM := Lib.hid hgm
                    rw [← hgm]
                    go_cut [] from 35 to 169 (fun w' => Hid (Below w10.heap.size w10 w' ∧ w'.heap[gm]? = some (.cells #[.int .i64 (hdIdx L7), .int .i64 (hdTerm L7)] 23)))
                    case first =>
                      subst hgm
                      cases L7 with
                      | nil =>
                        obtain rfl : l7 = 0 := HLN7.out
                        go_wp2_with fail
                        go_meet
                        case rel => exact Lib.hid ⟨below_alloc _ _, heap_new _ _ _ rfl⟩
                      | cons f M7 =>
                        obtain ⟨g7, u7, uc7, rfl, -, gz7, ⟨e0, e1, -, -, -, -⟩, -⟩ := HEL.out 0 (by simp)
                        simp only [List.getElem_cons_zero, Nat.zero_mul, Nat.zero_add] at e0 e1
                        have hl0 : (0 : Int) < (l7 : Int) := by have := HLN7.out; simp at this; omega
                        go_wp2_with fail
                        go_meet
                        case rel => exact Lib.hid ⟨below_alloc _ _, heap_new _ _ _ rfl⟩
                    case rest =>
                      have HW11 := hcut
                      clear hcut k1 kz hgm
                      obtain ⟨w11, hw11⟩ : ∃ x : World, x = wc := ⟨_, rfl⟩
                      subst hw11
                      have hst11 := HST10.out.next HW11.out.1
                      have HST11 := Lib.hid hst11
                      have hgx := HW11.out.2
                      obtain ⟨m0, m1, mz⟩ : w11.cell? ⟨gm, 0, none⟩ = some (.int .i64 (hdIdx L7)) ∧ w11.cell? ⟨gm, 1, none⟩ = some (.int .i64 (hdTerm L7)) ∧ gm < w11.heap.size := ⟨cell_of_row _ _ 0 _ _ _ hgx, cell_of_row _ _ 1 _ _ _ hgx, lt_of_heap hgx⟩
                      have r0 := fun w' (hb : Below w11.heap.size w11 w') => (hb.cell (p := ⟨gm, 0, none⟩) mz).trans m0
                      have r1 := fun w' (hb : Below w11.heap.size w11 w') => (hb.cell (p := ⟨gm, 1, none⟩) mz).trans m1
                      have HMK : Hid (∀ w', Below w11.heap.size w11 w' → Calls Tryd.prog 15 #[.pointer (some ⟨g, 0, none⟩)] w' fun e w'' => e = .returned (mkAgg (hdIdx L7) (hdTerm L7)) ∧ Below w'.heap.size w' w'') := Lib.hid fun w' hb => Mark_any X7 g most L7 w' (HST11.out.next hb).hp.heap.1
                      have HMS : Hid (∀ w', Below w11.heap.size w11 w' → Calls Tryd.prog 16 #[.pointer (some ⟨g, 0, none⟩)] w' fun e w'' => e = .returned (.int .i64 (missing L7 : Int)) ∧ w' = w'') := Lib.hid fun w' hb => Missing_any X7 g most L7 w' (HST11.out.next hb).hp.heap.1
                      have HMR : Hid (∀ w', Below w11.heap.size w11 w' → Calls Tryd.prog 17 #[.pointer (some ⟨gr, 0, none⟩)] w' fun e w'' => e = .returned (.int .i64 (missing L7 : Int)) ∧ w'' = w') := Lib.hid fun w' hb => RefMissing_any Y8 w.heap.size gr most L7 w' (HST11.out.next hb).rh (by have := HN7.out; omega) HF7.out
                      obtain ⟨mi, hmi⟩ : ∃ mi, mi = missing L7 := ⟨_, rfl⟩
                      rw [← hmi] at HMS HMR
                      obtain ⟨S, hS0⟩ : ∃ S, S = strOf (wholeL L7) := ⟨_, rfl⟩
                      have kc1 : ∀ w', Below w11.heap.size w11 w' → (convert 24 9 (.slice aw lw cw)).run Tryd.prog w' = .ok (.string S) w' := fun w' hb => by
                        rw [hS0, HLW.out]
                        refine run_string (P := Tryd.prog) (F := fun _ => True) (HRA.out.same (w' := w') (fun _ _ => trivial) fun k hk => ?_) 24 5 9 Tryd.underlying24 Tryd.underlying5 Tryd.underlying9
                        have h2 := HB10.out.size
                        have h3 := HW11.out.1.size
                        exact (hb.block k (by omega)).trans ((HW11.out.1.block k (by omega)).trans (HB10.out.block k hk.2))
                      have kc2 : ∀ w', Below w11.heap.size w11 w' → (convert 24 9 (.slice aw' lw cw')).run Tryd.prog w' = .ok (.string S) w' := fun w' hb => by
                        rw [hS0, HLW.out]
                        refine run_string (P := Tryd.prog) (F := fun _ => True) (HRB.out.same (w' := w') (fun _ _ => trivial) fun k hk => ?_) 24 5 9 Tryd.underlying24 Tryd.underlying5 Tryd.underlying9
                        have h3 := HW11.out.1.size
                        exact (hb.block k (by omega)).trans (HW11.out.1.block k hk.2)
                      have heq := fun w' => eqMark7 (hdIdx L7) (hdTerm L7) w'
                      unfold mkAgg at HMK
                      obtain ⟨hi, hhi⟩ : ∃ hi, hi = hdIdx L7 := ⟨_, rfl⟩
                      obtain ⟨ht, hht⟩ : ∃ ht, ht = hdTerm L7 := ⟨_, rfl⟩
                      rw [← hhi, ← hht] at HMK heq
                      rw [← hhi] at r0
                      rw [← hht] at r1
                      clear hst11 hgx m0 m1 mz hS0 hmi hhi hht
                      go_upto_region 27 with fail
                      refine wp_region_held (S := fun w' => Below w11.heap.size w11 w') (by kernel_rfl) ?_
                      have hS : Below w11.heap.size w11 w11.drew := (Below.refl _ _).drew
                      refine H_take (i := 0) (v := ?_) rfl (by as_aux_lemma => kernel_rfl) (by as_aux_lemma => kernel_rfl) (by as_aux_lemma => kernel_rfl) (fun _ _ _ h => h) (by rfl) hS ?_ ?_
                      rotate_left
                      · intro w' hw'; go_simp; with_reducible rfl
                      go_simp
                      refine H_take (i := 1) (v := ?_) rfl (by as_aux_lemma => kernel_rfl) (by as_aux_lemma => kernel_rfl) (by as_aux_lemma => kernel_rfl) (fun _ _ _ h => h) (by rfl) hS ?_ ?_
                      rotate_left
                      · intro w' hw'; go_simp; with_reducible rfl
                      go_simp
                      refine H_take (i := 2) (v := ?_) rfl (by as_aux_lemma => kernel_rfl) (by as_aux_lemma => kernel_rfl) (by as_aux_lemma => kernel_rfl) (fun _ _ _ h => h) (by rfl) hS ?_ ?_
                      rotate_left
                      · intro w' hw'; go_simp; with_reducible rfl
                      go_simp
                      refine H_take (i := 3) (v := ?_) rfl (by as_aux_lemma => kernel_rfl) (by as_aux_lemma => kernel_rfl) (by as_aux_lemma => kernel_rfl) (fun _ _ _ h => h) (by rfl) hS ?_ ?_
                      rotate_left
                      · intro w' hw'; go_simp; with_reducible rfl
                      go_simp
                      refine H_take (i := 4) (v := ?_) rfl (by as_aux_lemma => kernel_rfl) (by as_aux_lemma => kernel_rfl) (by as_aux_lemma => kernel_rfl) (fun _ _ _ h => h) (by rfl) hS ?_ ?_
                      rotate_left
                      · intro w' hw'; go_simp; with_reducible rfl
                      go_simp
                      refine H_take (i := 5) (v := ?_) rfl (by as_aux_lemma => kernel_rfl) (by as_aux_lemma => kernel_rfl) (by as_aux_lemma => kernel_rfl) (fun _ _ _ h => h) (by rfl) hS ?_ ?_
                      rotate_left
                      · intro w' hw'; go_simp; with_reducible rfl
                      go_simp
                      refine H_take (i := 6) (v := ?_) rfl (by as_aux_lemma => kernel_rfl) (by as_aux_lemma => kernel_rfl) (by as_aux_lemma => kernel_rfl) (fun _ _ _ h => h) (by rfl) hS ?_ ?_
                      rotate_left
                      · intro w' hw'; go_simp; with_reducible rfl
                      go_simp
                      refine H_take (i := 7) (v := ?_) rfl (by as_aux_lemma => kernel_rfl) (by as_aux_lemma => kernel_rfl) (by as_aux_lemma => kernel_rfl) (fun _ _ _ h => h) (by rfl) hS ?_ ?_
                      rotate_left
                      · intro w' hw'; go_simp; with_reducible rfl
                      go_simp
                      refine H_take (i := 8) (v := ?_) rfl (by as_aux_lemma => kernel_rfl) (by as_aux_lemma => kernel_rfl) (by as_aux_lemma => kernel_rfl) (fun _ _ _ h => h) (by rfl) hS ?_ ?_
                      rotate_left
                      · intro w' hw'; go_simp; with_reducible rfl
                      go_simp
                      refine H_take (i := 9) (v := ?_) rfl (by as_aux_lemma => kernel_rfl) (by as_aux_lemma => kernel_rfl) (by as_aux_lemma => kernel_rfl) (fun _ _ _ h => h) (by rfl) hS ?_ ?_
                      rotate_left
                      · intro w' hw'; go_simp; with_reducible rfl
                      go_simp
                      refine H_take (i := 10) (v := ?_) rfl (by as_aux_lemma => kernel_rfl) (by as_aux_lemma => kernel_rfl) (by as_aux_lemma => kernel_rfl) (fun _ _ _ h => h) (by rfl) hS ?_ ?_
                      rotate_left
                      · intro w' hw'; go_simp; with_reducible rfl
                      go_simp
                      refine H_take (i := 11) (v := ?_) rfl (by as_aux_lemma => kernel_rfl) (by as_aux_lemma => kernel_rfl) (by as_aux_lemma => kernel_rfl) (fun _ _ _ h => h) (by rfl) hS ?_ ?_
                      rotate_left
                      · intro w' hw'; go_simp; with_reducible rfl
                      go_simp
                      refine H_take (i := 12) (v := ?_) rfl (by as_aux_lemma => kernel_rfl) (by as_aux_lemma => kernel_rfl) (by as_aux_lemma => kernel_rfl) (fun _ _ _ h => h) (by rfl) hS ?_ ?_
                      rotate_left
                      · intro w' hw'; go_simp; with_reducible rfl
                      go_simp
                      refine H_take (i := 13) (v := ?_) rfl (by as_aux_lemma => kernel_rfl) (by as_aux_lemma => kernel_rfl) (by as_aux_lemma => kernel_rfl) (fun _ _ _ h => h) (by rfl) hS ?_ ?_
                      rotate_left
                      · intro w' hw'; go_simp; with_reducible rfl
                      go_simp
                      refine H_take (i := 14) (v := ?_) rfl (by as_aux_lemma => kernel_rfl) (by as_aux_lemma => kernel_rfl) (by as_aux_lemma => kernel_rfl) (fun _ _ _ h => h) (by rfl) hS ?_ ?_
                      rotate_left
                      · intro w' hw'; go_simp; with_reducible rfl
                      go_simp
                      refine H_take (i := 15) (v := ?_) rfl (by as_aux_lemma => kernel_rfl) (by as_aux_lemma => kernel_rfl) (by as_aux_lemma => kernel_rfl) (fun _ _ _ h => h) (by rfl) hS ?_ ?_
                      rotate_left
                      · intro w' hw'; go_simp; with_reducible rfl
                      go_simp
                      refine H_take (i := 16) (v := ?_) rfl (by as_aux_lemma => kernel_rfl) (by as_aux_lemma => kernel_rfl) (by as_aux_lemma => kernel_rfl) (fun _ _ _ h => h) (by rfl) hS ?_ ?_
                      rotate_left
                      · intro w' hw'; go_simp; with_reducible rfl
                      go_simp
                      refine H_take (i := 17) (v := ?_) rfl (by as_aux_lemma => kernel_rfl) (by as_aux_lemma => kernel_rfl) (by as_aux_lemma => kernel_rfl) (fun _ _ _ h => h) (by rfl) hS ?_ ?_
                      rotate_left
                      · intro w' hw'; go_simp; with_reducible rfl
                      go_simp
                      refine H_take (i := 18) (v := ?_) rfl (by as_aux_lemma => kernel_rfl) (by as_aux_lemma => kernel_rfl) (by as_aux_lemma => kernel_rfl) (fun _ _ _ h => h) (by rfl) hS ?_ ?_
                      rotate_left
                      · intro w' hw'; go_simp; with_reducible rfl
                      go_simp
                      refine H_take (i := 19) (v := ?_) rfl (by as_aux_lemma => kernel_rfl) (by as_aux_lemma => kernel_rfl) (by as_aux_lemma => kernel_rfl) (fun _ _ _ h => h) (by rfl) hS ?_ ?_
                      rotate_left
                      · intro w' hw'; go_simp; with_reducible rfl
                      go_simp
                      refine H_take (i := 20) (v := ?_) rfl (by as_aux_lemma => kernel_rfl) (by as_aux_lemma => kernel_rfl) (by as_aux_lemma => kernel_rfl) (fun _ _ _ h => h) (by rfl) hS ?_ ?_
                      rotate_left
                      · intro w' hw'; go_simp; with_reducible rfl
                      go_simp
                      refine H_take (i := 21) (v := ?_) rfl (by as_aux_lemma => kernel_rfl) (by as_aux_lemma => kernel_rfl) (by as_aux_lemma => kernel_rfl) (fun _ _ _ h => h) (by rfl) hS ?_ ?_
                      rotate_left
                      · intro w' hw'; go_simp; with_reducible rfl
                      go_simp
                      refine H_take (i := 23) (v := ?_) rfl (by as_aux_lemma => kernel_rfl) (by as_aux_lemma => kernel_rfl) (by as_aux_lemma => kernel_rfl) (fun _ _ _ h => h) (by rfl) hS ?_ ?_
                      rotate_left
                      · intro w' hw'; go_simp; with_reducible rfl
                      go_simp
                      refine H_one (i := 22) (by as_aux_lemma => kernel_rfl) rfl (by rfl) ?_
                      go_simp
                      refine (HMK.out _ hS).mono ?_
                      rintro e w12 ⟨rfl, hb12⟩
                      have hS12 : Below w11.heap.size w11 w12 := hS.trans (hb12.mono hS.size)
                      clear hb12
                      refine ⟨hS12, ?_⟩
                      go_simp
                      refine H_take (i := 24) (v := ?_) rfl (by as_aux_lemma => kernel_rfl) (by as_aux_lemma => kernel_rfl) (by as_aux_lemma => kernel_rfl) (fun _ _ _ h => h) (by rfl) hS12 ?_ ?_
                      rotate_left
                      · intro w' hw'; go_simp; with_reducible rfl
                      go_simp
                      refine H_take (i := 25) (v := ?_) rfl (by as_aux_lemma => kernel_rfl) (by as_aux_lemma => kernel_rfl) (by as_aux_lemma => kernel_rfl) (fun _ _ _ h => h) (by rfl) hS12 ?_ ?_
                      rotate_left
                      · intro w' hw'; go_simp; with_reducible rfl
                      go_simp
                      refine H_take (i := 26) (v := ?_) rfl (by as_aux_lemma => kernel_rfl) (by as_aux_lemma => kernel_rfl) (by as_aux_lemma => kernel_rfl) (fun _ _ _ h => h) (by rfl) hS12 ?_ ?_
                      rotate_left
                      · intro w' hw'; go_simp; with_reducible rfl
                      go_simp
                      refine H_take (i := 27) (v := ?_) rfl (by as_aux_lemma => kernel_rfl) (by as_aux_lemma => kernel_rfl) (by as_aux_lemma => kernel_rfl) (fun _ _ _ h => h) (by rfl) hS12 ?_ ?_
                      rotate_left
                      · intro w' hw'; go_simp; with_reducible rfl
                      go_simp
                      refine H_take (i := 29) (v := ?_) rfl (by as_aux_lemma => kernel_rfl) (by as_aux_lemma => kernel_rfl) (by as_aux_lemma => kernel_rfl) (fun _ _ _ h => h) (by rfl) hS12 ?_ ?_
                      rotate_left
                      · intro w' hw'; go_simp; with_reducible rfl
                      go_simp
                      have HS12 := Lib.hid hS12
                      refine H_one (i := 28) (by as_aux_lemma => kernel_rfl) rfl (by rfl) ?_
                      go_simp
                      refine (HMS.out _ hS12).mono ?_
                      rintro e w13 ⟨rfl, rfl⟩
                      refine ⟨hS12, ?_⟩
                      go_simp
                      refine H_one (i := 30) (by as_aux_lemma => kernel_rfl) rfl (by rfl) ?_
                      go_simp
                      refine (HMR.out _ hS12).mono ?_
                      rintro e w14 ⟨rfl, rfl⟩
                      refine ⟨hS12, ?_⟩
                      go_simp
                      refine H_take (i := 31) (v := ?_) rfl (by as_aux_lemma => kernel_rfl) (by as_aux_lemma => kernel_rfl) (by as_aux_lemma => kernel_rfl) (fun _ _ _ h => h) (by rfl) hS12 ?_ ?_
                      rotate_left
                      · intro w' hw'; go_simp; with_reducible rfl
                      go_simp
                      refine H_take (i := 32) (v := ?_) rfl (by as_aux_lemma => kernel_rfl) (by as_aux_lemma => kernel_rfl) (by as_aux_lemma => kernel_rfl) (fun _ _ _ h => h) (by rfl) hS12 ?_ ?_
                      rotate_left
                      · intro w' hw'; go_simp; with_reducible rfl
                      go_simp
                      refine wpAnyH_done (by as_aux_lemma => kernel_rfl) ?_ _
                      go_wp2_with fail
                      go_roundg (go1 - 1)
                      case measure => have := HGO.out; omega
                      case rel => exact ⟨k + 1, L7, by have := HGO.out; omega, by push_cast; rfl, Lib.hid ⟨⟨X7, Y8, HST11.out.next HS12.out⟩, HF7.out, HN7.out⟩⟩
      · obtain rfl : k = N := by omega
        have hkk : ¬ (k : Int) < (k : Int) := by omega
        have HBW : Hid (Below w.heap.size w wr) := Lib.hid (by obtain ⟨⟨_, _, hst⟩, -⟩ := HS.out; exact hst.hp.below)
        go_wp2_with fail
        go_ret
        exact ⟨rfl, HBW.out⟩
end Go.Proofs.YtdngfbljcmbniaaDoor.M
