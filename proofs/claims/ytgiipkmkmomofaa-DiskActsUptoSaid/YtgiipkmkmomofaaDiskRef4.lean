/- The document's disk: take. -/
import Derived.Test.YtgiipkmkmomofaaDiskRef3
namespace Go.Proofs.Ytgiipkmkmomofaa.M
open Go.RowKit
open D (Fl Dk)

/-- Three cells of a block that is known whole. -/
theorem three_of {w : World} {g : Nat} {x y z : Value} {t : TypeId} (h : w.heap[g]? = some (.cells #[x, y, z] t)) :
    w.cell? ⟨g, 0, none⟩ = some x ∧ w.cell? ⟨g, 1, none⟩ = some y ∧ w.cell? ⟨g, 2, none⟩ = some z ∧
    w.frozen? ⟨g, 0, none⟩ = false ∧ w.frozen? ⟨g, 1, none⟩ = false ∧ w.frozen? ⟨g, 2, none⟩ = false ∧ g < w.heap.size :=
  ⟨cell_of_row w g 0 _ t _ h, cell_of_row w g 1 _ t _ h, cell_of_row w g 2 _ t _ h, frozen_of_row w g 0 _ t h, frozen_of_row w g 1 _ t h, frozen_of_row w g 2 _ t h, lt_of_heap h⟩

theorem ownBlock_len {a : Option Addr} {n m c c' : Nat} : (Value.slice a n c).ownBlock = (Value.slice a m c').ownBlock := by
  cases a with
  | none => rfl
  | some a => rfl

theorem erase_parts {α : Type} (l : List α) (i : Nat) : l.eraseIdx i = l.take i ++ l.drop (i + 1) := List.eraseIdx_eq_take_drop_succ ..

theorem parts_of_list {α : Type} (l : List α) (i : Nat) (h : i < l.length) : l = l.take i ++ l[i] :: l.drop (i + 1) := by
  rw [← List.drop_eq_getElem_cons h, List.take_append_drop]

/-- The disk, behind a file's taking out. -/
theorem take_done {w w2 wF : World} {d : Dk} {X : Nat → Prop} {gd : Nat} {vl v2 : Value} {fv : List (Fl × Value)} {i : Nat} {cc : Int} (hat : DkAt w X gd d vl fv) (hX : ∀ k, X k → k < w.heap.size) (hi : i < fv.length)
    (hcc : d.ends = true → cc = (d.calls : Int)) (hsz : w.heap.size ≤ w2.heap.size) (hold : ∀ k, k < w.heap.size → w2.heap[k]? = w.heap[k]?) (hos : w2.os = w.os ∧ w2.tape = w.tape ∧ w2.output = w.output)
    (ho : w2.ownsRow 0 68 3 v2 (fv.eraseIdx i).length (flCells (fv.eraseIdx i))) (hno : ∀ k, v2.ownBlock = some k → w.heap.size < k ∧ k < w2.heap.size)
    (hFo : ∀ k, k ≠ gd → k ≠ w.heap.size → wF.heap[k]? = w2.heap[k]?) (hFg : wF.heap[gd]? = some (.cells #[.int .i64 d.room, v2, .bool d.ends, .int .i64 cc] 34)) (hFs : wF.heap.size = w2.heap.size)
    (hFw : wF.os = w2.os ∧ wF.tape = w2.tape ∧ wF.output = w2.output) :
    Only (fun k => k = gd) w wF ∧ DkAt wF (More X w wF) gd { d with fs := d.fs.eraseIdx i } v2 (fv.eraseIdx i) ∧ (∀ k, fv[i].2.ownBlock = some k → wF.heap[k]? = w.heap[k]? ∧ k ∉ blocksOf gd v2 (fv.eraseIdx i)) ∧ (∀ k, v2.ownBlock = some k → w.heap.size ≤ k) := by
  have hgw := hX gd hat.own
  have hap := hat.apart
  have hkeep : ∀ k, k < w.heap.size → k ≠ gd → wF.heap[k]? = w.heap[k]? := fun k hk hg => (hFo k hg (by omega)).trans (hold k hk)
  have hfile : ∀ p ∈ fv, ∀ k, p.2.ownBlock = some k → k < w.heap.size ∧ k ≠ gd := fun p hp k hk => by
    have hm := mem_blocks_file (gd := gd) (vl := vl) hp hk
    refine ⟨hX k (hat.foot k hm), fun e => ?_⟩
    rw [blocksOf, List.cons_append, List.nodup_cons] at hap
    apply hap.1
    rw [← e, List.mem_append, List.mem_flatMap]
    exact .inr ⟨p, hp, by simp [hk]⟩
  have hsub : ∀ p ∈ fv.eraseIdx i, p ∈ fv := fun p hp => List.mem_of_mem_eraseIdx hp
  have hnd : ((fv.eraseIdx i).flatMap fun p : Fl × Value => p.2.ownBlock.toList).Nodup ∧ ∀ k, fv[i].2.ownBlock = some k → k ∉ (fv.eraseIdx i).flatMap fun p : Fl × Value => p.2.ownBlock.toList := by
    have h1 : (fv.flatMap fun p : Fl × Value => p.2.ownBlock.toList).Nodup := by
      rw [blocksOf] at hap
      exact (List.nodup_append.1 hap).2.1
    rw [parts_of_list fv i hi, List.flatMap_append, List.flatMap_cons] at h1
    rw [erase_parts, List.flatMap_append]
    obtain ⟨a1, a2, a3⟩ := List.nodup_append.1 h1
    obtain ⟨b1, b2, b3⟩ := List.nodup_append.1 a2
    refine ⟨List.nodup_append.2 ⟨a1, b2, fun x hx y hy => a3 x hx y (List.mem_append.2 (.inr hy))⟩, fun k hk hm => ?_⟩
    have hkm : k ∈ fv[i].2.ownBlock.toList := by simp [hk]
    rcases List.mem_append.1 hm with hm | hm
    · exact a3 k hm k (List.mem_append.2 (.inl hkm)) rfl
    · exact b3 k hkm k hm rfl
  refine ⟨⟨hFw.1.trans hos.1, hFw.2.1.trans hos.2.1, hFw.2.2.trans hos.2.2, by omega, fun k hk hn => hkeep k hk hn⟩, ⟨⟨cc, hFg, hcc⟩, ?_, ownsRow_same ho fun k hk => ?_, fun p hp => ?_, ?_, ?_⟩, ?_, fun k hk => Nat.le_of_lt (hno k hk).1⟩
  · show (fv.eraseIdx i).map (·.1) = d.fs.eraseIdx i
    rw [erase_parts, List.map_append, List.map_take, List.map_drop, hat.fs, ← erase_parts]
  · have := hno k hk
    exact hFo k (by omega) (by omega)
  · exact ownsRow_same (hat.each p (hsub p hp)) fun k hk => by
      obtain ⟨h1, h2⟩ := hfile p (hsub p hp) k hk
      exact hkeep k h1 h2
  · rw [blocksOf, List.cons_append, List.nodup_cons]
    refine ⟨fun hm => ?_, List.nodup_append.2 ⟨?_, hnd.1, fun x hx y hy e => ?_⟩⟩
    · rcases List.mem_append.1 hm with hm | hm
      · have := hno gd (by simpa using hm)
        omega
      · obtain ⟨p, hp, hk⟩ := List.mem_flatMap.1 hm
        exact (hfile p (hsub p hp) gd (by simpa using hk)).2 rfl
    · cases v2.ownBlock <;> simp
    · have h1 := hno x (by simpa using hx)
      obtain ⟨p, hp, hk⟩ := List.mem_flatMap.1 hy
      have h2 := (hfile p (hsub p hp) y (by simpa using hk)).1
      omega
  · intro k hk
    rw [blocksOf, List.cons_append, List.mem_cons, List.mem_append, List.mem_flatMap] at hk
    rcases hk with rfl | hk | ⟨p, hp, hk⟩
    · exact .inl hat.own
    · have := hno k (by simpa using hk)
      exact .inr ⟨by omega, by omega⟩
    · exact .inl (hat.foot k (mem_blocks_file (hsub p hp) (by simpa using hk)))
  · intro k hk
    obtain ⟨h1, h2⟩ := hfile fv[i] (List.getElem_mem hi) k hk
    refine ⟨hkeep k h1 h2, fun hm => ?_⟩
    rw [blocksOf, List.cons_append, List.mem_cons, List.mem_append] at hm
    rcases hm with h3 | hm | hm
    · exact h2 h3
    · have := hno k (by simpa using hm)
      omega
    · exact hnd.2 k hk hm

set_option maxRecDepth 20000 in
set_option maxHeartbeats 3200000 in
theorem RefTake_any (d : Dk) (X : Nat → Prop) (gd : Nat) (vl : Value) (fv : List (Fl × Value)) (i : Nat) (w : World) (hat : DkAt w X gd d vl fv) (hX : ∀ k, X k → k < w.heap.size) (hi : i < fv.length) (h4 : Hid (fv.length ≤ 4096)) :
    Calls Try.prog 57 #[.pointer (some ⟨gd, 0, none⟩), .int .i64 (i : Int)] w fun e w' => ∃ vl', e = .returned (.agg #[.string fv[i].1.nm, fv[i].2, .int .i64 (fv[i].1.safe : Int)]) ∧ Only (fun k => k = gd) w w' ∧
      DkAt w' (More X w w') gd { d with fs := d.fs.eraseIdx i } vl' (fv.eraseIdx i) ∧ (∀ k, fv[i].2.ownBlock = some k → w'.heap[k]? = w.heap[k]? ∧ k ∉ blocksOf gd vl' (fv.eraseIdx i)) ∧ (∀ k, vl'.ownBlock = some k → w.heap.size ≤ k) := by
  obtain ⟨cc, ⟨-, c1, -, -⟩, ⟨-, f1, -, -⟩, hz, hbox, hcc⟩ := hat.cells
  obtain ⟨ga, c, rfl, hXa, hga, hgaz, hnc, hcm, e0, e1, e2, hfz⟩ := hat.file i hi
  obtain ⟨va, vc, hvi, hvl⟩ := hat.bytes i hi
  have HVI := Lib.hid hvi
  rw [hvi] at e1 ⊢
  have HBX := Lib.hid hbox
  have HAT := Lib.hid hat
  have HCC := Lib.hid hcc
  have HX := Lib.hid hX
  have hil : (i : Int) < (fv.length : Int) := by omega
  have hic : (i : Int) ≤ (c : Int) := by omega
  have hi1 : (i : Int) + 1 ≤ (fv.length : Int) := by omega
  have hfl : (fv.length : Int) ≤ 4096 := by have := h4.out; omega
  obtain ⟨nm, hnm⟩ : ∃ nm, nm = fv[i].1.nm := ⟨_, rfl⟩
  obtain ⟨bl, hbl⟩ : ∃ bl, bl = fv[i].1.b.length := ⟨_, rfl⟩
  obtain ⟨sf, hsf⟩ : ∃ sf, sf = fv[i].1.safe := ⟨_, rfl⟩
  rw [← hnm] at e0 ⊢
  rw [← hbl] at e1 ⊢
  rw [← hsf] at e2 ⊢
  have HNM := Lib.hid hnm
  have HBL := Lib.hid hbl
  have HSF := Lib.hid hsf
  obtain ⟨iF, hiF, hiF0, hiF1, hiF2⟩ := info_parts infoFile
  clear hat hbox hcc hX hvi hnm hbl hsf hfz hvl
  go_enter Try.func57, Try.ntmps57
  go_wp2_with (at_builtin; refine wpList_append_any _ rfl _ _ 32 rfl 0 68 iF (.agg #[.string ByteArray.empty, .slice none 0 0, .int .i64 0]) 3 48 Try.underlying32 hiF hiF0 hiF1 hiF2 rfl (by decide) _ 0 [] rfl (World.ownsRow_nil _ _ _ _) (.slice (some ⟨ga, 0, none⟩) i c) rfl i (flCells ((fv.drop 0).take i)) ?c1 ?c2 ?c3 ?c4 ?_)
  case c1 =>
    have := fun o1 o2 => (HAT.out.same (Y := X) (w' := (w.alloc o1).alloc o2) (fun _ h => h) fun k hk => by
      have := HX.out k hk
      rw [Below.heap_alloc _ _ _ (by simp; omega), Below.heap_alloc _ _ _ this]).yields rfl 0 i c (by omega)
    simp only [Nat.zero_mul, List.drop_zero] at this ⊢
    exact this _ _
  case c2 => unfold maxLen; have := h4.out; omega
  case c3 => have := h4.out; omega
  case c4 => omega
  intro v1 w1 happ1
  obtain ⟨ho1, hg1, hw1⟩ := happ1
  rw [Nat.zero_add, List.nil_append] at ho1
  have hk1 : ∀ k, k < w.heap.size + 2 → w1.heap[k]? = ((w.alloc (.cells #[.string ByteArray.empty, .slice none 0 0, .int .i64 0] 68)).alloc (.cells #[.string nm, .slice va bl vc, .int .i64 (sf : Int)] 68)).heap[k]? :=
    fun k hk => hg1.block k (by simp; omega) (by simp [Value.ownBlock])
  have hold1 : ∀ k, k < w.heap.size → w1.heap[k]? = w.heap[k]? := fun k hk => by
    rw [hk1 k (by omega), Below.heap_alloc _ _ _ (by simp; omega), Below.heap_alloc _ _ _ hk]
  have hx4 := (hk1 w.heap.size (by omega)).trans (old_alloc (heap_new _ _ _ rfl))
  have hx5 := (hk1 (w.heap.size + 1) (by omega)).trans (heap_new _ _ _ (by simp))
  have hs1 := hg1.size
  simp only [World.size_alloc] at hs1
  obtain ⟨a1, k1, rfl⟩ := owned_slice ho1
  have hno1 : ∀ k, (Value.slice a1 i k1).ownBlock = some k → w.heap.size + 2 ≤ k := fun k hk => by
    rcases hw1 with h | h
    · rw [hk] at h; simp [Value.ownBlock] at h
    · rw [hk] at h; simp at h; omega
  obtain ⟨-, ⟨-, g1, -, -⟩, ⟨-, h1, -, -⟩, hz1, -⟩ := (HAT.out.same (w' := w1) (Y := X) (fun _ h => h) fun k hk => hold1 k (HX.out k hk)).cells
  have HAT1 : Hid _ := Lib.hid (HAT.out.same (w' := w1) (Y := X) (fun _ h => h) fun k hk => hold1 k (HX.out k hk))
  have HO1 := Lib.hid ho1
  have HX4 := Lib.hid hx4
  have HX5 := Lib.hid hx5
  have HOLD1 := Lib.hid hold1
  have HNO1 := Lib.hid hno1
  have HT1 : Hid (w1.os = w.os ∧ w1.tape = w.tape ∧ w1.output = w.output) := Lib.hid ⟨hg1.os, hg1.tape, hg1.output⟩
  clear ho1 hg1 hw1 hk1 hold1 hx4 hx5 hno1
  by_cases hcap : c = i + 1
  · subst hcap
    have hn1 : fv.length = i + 1 := by omega
    go_wp2_with (at_builtin; refine wpList_append_any _ rfl (.tmp 23) (.tmp 30) 32 rfl 0 68 iF (.agg #[.string ByteArray.empty, .slice none 0 0, .int .i64 0]) 3 48 Try.underlying32 hiF hiF0 hiF1 hiF2 rfl (by decide) _ i _ rfl HO1.out (.slice (some ⟨ga, 0, none⟩) 0 0) rfl 0 [] ⟨rfl, by simp, .inr ⟨_, _, rfl, by simp⟩⟩ ?d2 ?d3 ?d4 ?_)
    case d2 => unfold maxLen; have := h4.out; omega
    case d3 => have := h4.out; omega
    case d4 => omega
    intro v2 w2 happ2
    obtain ⟨ho2, hg2, hw2⟩ := happ2
    rw [Nat.add_zero, List.append_nil] at ho2
    obtain ⟨a2, k2, rfl⟩ := owned_slice ho2
    have hx4 : w2.heap[w.heap.size]? = _ := (hg2.block _ (by omega) (fun h => by have := HNO1.out _ h.symm; omega)).trans HX4.out
    have hx5 : w2.heap[w.heap.size + 1]? = _ := (hg2.block _ (by omega) (fun h => by have := HNO1.out _ h.symm; omega)).trans HX5.out
    have hxg : w2.heap[gd]? = w1.heap[gd]? := hg2.block gd (by omega) (fun h => by have := HNO1.out _ h.symm; omega)
    obtain ⟨m0, m1, m2, n0, n1, n2, nz⟩ := three_of hx4
    obtain ⟨p0, p1, p2, -, -, -, pz⟩ := three_of hx5
    have r1 : w2.cell? ⟨gd, 1, none⟩ = _ := (World.cell?_of_block (w := w1) (w' := w2) (a := ⟨gd, 1, none⟩) hxg).trans g1
    have s1 : w2.frozen? ⟨gd, 1, none⟩ = false := by rw [show w2.frozen? ⟨gd, 1, none⟩ = w1.frozen? ⟨gd, 1, none⟩ from by simp [World.frozen?, hxg]]; exact h1
    have gz2 : gd < w2.heap.size := by omega
    have HNO2 : Hid (∀ k, (Value.slice a2 i k2).ownBlock = some k → w.heap.size < k ∧ k < w2.heap.size) := Lib.hid fun k hk => by
      have h1 := (ho2.lt k hk).2
      rcases hw2 with h | h
      · rw [h] at hk; have := HNO1.out k hk; omega
      · rw [hk] at h; cases h; omega
    have hs2 := hg2.size
    have HOLD2 : Hid (∀ k, k < w.heap.size → w2.heap[k]? = w.heap[k]?) := Lib.hid fun k hk => (hg2.block k (by omega) (fun h => by have := HNO1.out _ h.symm; omega)).trans (HOLD1.out k hk)
    have HGD2 : Hid (w2.heap[gd]? = w.heap[gd]?) := Lib.hid (HOLD2.out gd hz)
    have HT2 : Hid (w2.os = w.os ∧ w2.tape = w.tape ∧ w2.output = w.output) := Lib.hid ⟨hg2.os.trans HT1.out.1, hg2.tape.trans HT1.out.2.1, hg2.output.trans HT1.out.2.2⟩
    have HX42 := Lib.hid hx4
    have HX52 := Lib.hid hx5
    have HO2 := Lib.hid ho2
    have HG2 := Lib.hid hg2
    have HW2 := Lib.hid hw2
    clear hx4 hx5 hxg ho2 hg2 hw2
    go_wp2_with fail
    obtain ⟨wF, hwF⟩ : ∃ wF, wF = (((w2.setCell ⟨gd, 1, none⟩ (.slice a2 i k2)).setCell ⟨w.heap.size, 0, none⟩ (.string nm)).setCell ⟨w.heap.size, 1, none⟩ (.slice va bl vc)).setCell ⟨w.heap.size, 2, none⟩ (.int .i64 (sf : Int)) := ⟨_, rfl⟩
    have hF4 : wF.heap[w.heap.size]? = some (.cells #[.string nm, .slice va bl vc, .int .i64 (sf : Int)] 68) := by
      have q0 := old_set (a := ⟨gd, 1, none⟩) (v := .slice a2 i k2) HX42.out (by simp; omega)
      have q1 := heap_setCell_same _ _ 0 _ _ (.string nm) q0
      have q2 := heap_setCell_same _ _ 1 _ _ (.slice va bl vc) q1
      have q3 := heap_setCell_same _ _ 2 _ _ (.int .i64 (sf : Int)) q2
      rw [hwF, q3]; simp
    have hFg : wF.heap[gd]? = some (.cells #[.int .i64 d.room, .slice a2 i k2, .bool d.ends, .int .i64 cc] 34) := by
      have q0 := heap_setCell_same _ _ 1 _ _ (.slice a2 i k2) (HGD2.out.trans HBX.out)
      rw [hwF, Below.heap_setCell _ _ _ _ (by simp; omega), Below.heap_setCell _ _ _ _ (by simp; omega), Below.heap_setCell _ _ _ _ (by simp; omega), q0]; simp
    have hfin := take_done HAT.out HX.out hi HCC.out (w2 := w2) (wF := wF) (v2 := .slice a2 i k2) (cc := cc) (by omega) HOLD2.out HT2.out (by
        have e : fv.eraseIdx i = fv.take i := by rw [erase_parts, List.drop_of_length_le (by omega), List.append_nil]
        rw [e, show (fv.take i).length = i from by simp; omega]; exact HO2.out) HNO2.out
      (fun k h1 h2 => by rw [hwF, Below.heap_setCell _ _ _ _ (by simpa using h2), Below.heap_setCell _ _ _ _ (by simpa using h2), Below.heap_setCell _ _ _ _ (by simpa using h2), Below.heap_setCell _ _ _ _ (by simpa using h1)]) hFg (by rw [hwF]; simp) (by rw [hwF]; exact ⟨rfl, rfl, rfl⟩)
    rw [← hwF]
    exact bodyPost_ret (v := .agg #[.string nm, .slice va bl vc, .int .i64 (sf : Int)]) (results_cell_row (P := Try.prog) Try.results57 _ _ w.heap.size 68 _ (0, 0) _ rfl hF4 Try.underlying68 rfl (by kernel_rfl)) rfl ⟨.slice a2 i k2, rfl, hfin.1, hfin.2.1, fun k hk => hfin.2.2.1 k (by rw [HVI.out, ownBlock_len (m := bl) (c' := vc)]; exact hk), hfin.2.2.2⟩
  · have hc1 : ¬ (c : Int) = (i : Int) + 1 := by omega
    have HY : Hid (Yields w1 (.slice (some ⟨ga, (i + 1) * 3, none⟩) (fv.length - (i + 1)) (c - (i + 1))) (fv.length - (i + 1)) 3 (flCells (fv.drop (i + 1)))) := Lib.hid (by
      have := HAT1.out.yields rfl (i + 1) (fv.length - (i + 1)) (c - (i + 1)) (by omega)
      rw [List.take_of_length_le (by simp)] at this
      exact this)
    go_wp2_with (at_builtin; refine wpList_append_any _ rfl (.tmp 23) (.tmp 30) 32 rfl 0 68 iF (.agg #[.string ByteArray.empty, .slice none 0 0, .int .i64 0]) 3 48 Try.underlying32 hiF hiF0 hiF1 hiF2 rfl (by decide) _ i _ rfl HO1.out (.slice (some ⟨ga, (i + 1) * 3, none⟩) (fv.length - (i + 1)) (c - (i + 1))) rfl (fv.length - (i + 1)) (flCells (fv.drop (i + 1))) HY.out ?d2 ?d3 ?d4 ?_)
    case d2 => unfold maxLen; have := h4.out; omega
    case d3 => have := h4.out; omega
    case d4 => omega
    intro v2 w2 happ2
    obtain ⟨ho2, hg2, hw2⟩ := happ2
    obtain ⟨a2, k2, rfl⟩ := owned_slice ho2
    have hx4 : w2.heap[w.heap.size]? = _ := (hg2.block _ (by omega) (fun h => by have := HNO1.out _ h.symm; omega)).trans HX4.out
    have hx5 : w2.heap[w.heap.size + 1]? = _ := (hg2.block _ (by omega) (fun h => by have := HNO1.out _ h.symm; omega)).trans HX5.out
    have hxg : w2.heap[gd]? = w1.heap[gd]? := hg2.block gd (by omega) (fun h => by have := HNO1.out _ h.symm; omega)
    obtain ⟨m0, m1, m2, n0, n1, n2, nz⟩ := three_of hx4
    obtain ⟨p0, p1, p2, -, -, -, pz⟩ := three_of hx5
    have r1 : w2.cell? ⟨gd, 1, none⟩ = _ := (World.cell?_of_block (w := w1) (w' := w2) (a := ⟨gd, 1, none⟩) hxg).trans g1
    have s1 : w2.frozen? ⟨gd, 1, none⟩ = false := by rw [show w2.frozen? ⟨gd, 1, none⟩ = w1.frozen? ⟨gd, 1, none⟩ from by simp [World.frozen?, hxg]]; exact h1
    have gz2 : gd < w2.heap.size := by omega
    have HNO2 : Hid (∀ k, (Value.slice a2 (i + (fv.length - (i + 1))) k2).ownBlock = some k → w.heap.size < k ∧ k < w2.heap.size) := Lib.hid fun k hk => by
      have h1 := (ho2.lt k hk).2
      rcases hw2 with h | h
      · rw [h] at hk; have := HNO1.out k hk; omega
      · rw [hk] at h; cases h; omega
    have hs2 := hg2.size
    have HOLD2 : Hid (∀ k, k < w.heap.size → w2.heap[k]? = w.heap[k]?) := Lib.hid fun k hk => (hg2.block k (by omega) (fun h => by have := HNO1.out _ h.symm; omega)).trans (HOLD1.out k hk)
    have HGD2 : Hid (w2.heap[gd]? = w.heap[gd]?) := Lib.hid (HOLD2.out gd hz)
    have HT2 : Hid (w2.os = w.os ∧ w2.tape = w.tape ∧ w2.output = w.output) := Lib.hid ⟨hg2.os.trans HT1.out.1, hg2.tape.trans HT1.out.2.1, hg2.output.trans HT1.out.2.2⟩
    have HX42 := Lib.hid hx4
    have HX52 := Lib.hid hx5
    have HO2 := Lib.hid ho2
    have HG2 := Lib.hid hg2
    have HW2 := Lib.hid hw2
    clear hx4 hx5 hxg ho2 hg2 hw2
    go_wp2_with fail
    obtain ⟨wF, hwF⟩ : ∃ wF, wF = (((w2.setCell ⟨gd, 1, none⟩ (.slice a2 (i + (fv.length - (i + 1))) k2)).setCell ⟨w.heap.size, 0, none⟩ (.string nm)).setCell ⟨w.heap.size, 1, none⟩ (.slice va bl vc)).setCell ⟨w.heap.size, 2, none⟩ (.int .i64 (sf : Int)) := ⟨_, rfl⟩
    have hF4 : wF.heap[w.heap.size]? = some (.cells #[.string nm, .slice va bl vc, .int .i64 (sf : Int)] 68) := by
      have q0 := old_set (a := ⟨gd, 1, none⟩) (v := .slice a2 (i + (fv.length - (i + 1))) k2) HX42.out (by simp; omega)
      have q1 := heap_setCell_same _ _ 0 _ _ (.string nm) q0
      have q2 := heap_setCell_same _ _ 1 _ _ (.slice va bl vc) q1
      have q3 := heap_setCell_same _ _ 2 _ _ (.int .i64 (sf : Int)) q2
      rw [hwF, q3]; simp
    have hFg : wF.heap[gd]? = some (.cells #[.int .i64 d.room, .slice a2 (i + (fv.length - (i + 1))) k2, .bool d.ends, .int .i64 cc] 34) := by
      have q0 := heap_setCell_same _ _ 1 _ _ (.slice a2 (i + (fv.length - (i + 1))) k2) (HGD2.out.trans HBX.out)
      rw [hwF, Below.heap_setCell _ _ _ _ (by simp; omega), Below.heap_setCell _ _ _ _ (by simp; omega), Below.heap_setCell _ _ _ _ (by simp; omega), q0]; simp
    have hfin := take_done HAT.out HX.out hi HCC.out (w2 := w2) (wF := wF) (v2 := .slice a2 (i + (fv.length - (i + 1))) k2) (cc := cc) (by omega) HOLD2.out HT2.out (by
        rw [erase_parts, flCells_append, show (fv.take i ++ fv.drop (i + 1)).length = i + (fv.length - (i + 1)) from by simp; omega]; exact HO2.out) HNO2.out
      (fun k h1 h2 => by rw [hwF, Below.heap_setCell _ _ _ _ (by simpa using h2), Below.heap_setCell _ _ _ _ (by simpa using h2), Below.heap_setCell _ _ _ _ (by simpa using h2), Below.heap_setCell _ _ _ _ (by simpa using h1)]) hFg (by rw [hwF]; simp) (by rw [hwF]; exact ⟨rfl, rfl, rfl⟩)
    rw [← hwF]
    exact bodyPost_ret (v := .agg #[.string nm, .slice va bl vc, .int .i64 (sf : Int)]) (results_cell_row (P := Try.prog) Try.results57 _ _ w.heap.size 68 _ (0, 0) _ rfl hF4 Try.underlying68 rfl (by kernel_rfl)) rfl ⟨.slice a2 (i + (fv.length - (i + 1))) k2, rfl, hfin.1, hfin.2.1, fun k hk => hfin.2.2.1 k (by rw [HVI.out, ownBlock_len (m := bl) (c' := vc)]; exact hk), hfin.2.2.2⟩
end Go.Proofs.Ytgiipkmkmomofaa.M
