/- Package hard: a slot written anew. Package hard: Save. Package segment: lay. Package segment: Append. -/
import Derived.Test.YtamgjlegcegmeaaGreatDoorSD29
import Derived.Test.YtamgjlegcegmeaaGreatDoorSD25
import Derived.Test.YtamgjlegcegmeaaGreatDoorSD31
import Derived.Test.YtamgjlegcegmeaaGreatDoorSD32
import Derived.Deep.CutBlock
import Derived.Deep.CutRange
/- Part: PHard5. -/
namespace Go.Proofs.YtamgjlegcegmeaaGreatDoor.M
open Go.RowKit Go.Maps
open D (Fl Dk)

end Go.Proofs.YtamgjlegcegmeaaGreatDoor.M

/- Part: PHard6. -/
namespace Go.Proofs.YtamgjlegcegmeaaGreatDoor.M
open Go.RowKit Go.Maps
open D (Fl Dk)

theorem follows_one (s e : Int × Int) : followsAll s [e] = follows s e := by
  obtain ⟨st, sv⟩ := s
  obtain ⟨et, ev⟩ := e
  rw [Bool.eq_iff_iff]
  unfold followsAll isState may follows
  simp
  constructor
  · rintro ⟨⟨h1, h2⟩, h3⟩
    refine ⟨h1, h2, ?_⟩
    omega
  · rintro ⟨h1, h2, h3⟩
    refine ⟨⟨h1, h2⟩, ?_⟩
    omega

theorem slot_lt (L : List UInt8) : (slot L).1 < top := by
  unfold slot
  split
  · decide
  · split
    · decide
    · split
      · split
        · rename_i h; exact h.1
        · decide
      · decide

theorem newest_lt (fs : List Fl) : (newest fs).2.1 < top := by
  unfold newest
  split
  · decide
  · split
    · exact slot_lt _
    · exact slot_lt _

theorem RepSts.one {w : World} {s : Int × Int} {t : TypeId} {g : Nat} (hg : g = w.heap.size) :
    RepSts (w.alloc (.cells #[.int .i64 s.1, .int .i64 s.2] t)) (fun k => k = g) [s] (.slice (some ⟨g, 0, none⟩) 1 1) := by
  subst hg
  have h := fun j => cell_of_row _ w.heap.size j _ t _ (heap_alloc_new w (.cells #[.int .i64 s.1, .int .i64 s.2] t))
  refine .inr ⟨w.heap.size, 0, 1, rfl, rfl, Nat.le_refl _, by omega, fun i hi => ?_⟩
  obtain rfl : i = 0 := by simpa using hi
  exact ⟨h 0, h 1⟩

theorem heap_set2 {w : World} {g : Nat} {a b c x y : Value} {t : TypeId} (h : w.heap[g]? = some (.cells #[a, b, c] t)) :
    ((w.setCell ⟨g, 0, none⟩ x).setCell ⟨g, 1, none⟩ y).heap[g]? = some (.cells #[x, y, c] t) := by
  simp [World.setCell, Array.getElem?_modify, h]

end Go.Proofs.YtamgjlegcegmeaaGreatDoor.M

/- Part: SegPut. -/
namespace Go.Proofs.YtamgjlegcegmeaaGreatDoor.M
open Go.RowKit Go.Maps
open D (Fl Dk)

theorem four_cells {w : World} {g : Nat} {x0 x1 x2 x3 : Value} {t : TypeId} (h : w.heap[g]? = some (.cells #[x0, x1, x2, x3] t)) :
    w.cell? ⟨g, 0, none⟩ = some x0 ∧ w.cell? ⟨g, 1, none⟩ = some x1 ∧ w.cell? ⟨g, 2, none⟩ = some x2 ∧ w.cell? ⟨g, 3, none⟩ = some x3 ∧ g < w.heap.size := by
  have hc := fun j => cell_of_row w g j _ t _ h
  exact ⟨hc 0, hc 1, hc 2, hc 3, lt_of_heap h⟩

theorem seven_cells {w : World} {g : Nat} {x0 x1 x2 x3 x4 x5 x6 : Value} {t : TypeId} (h : w.heap[g]? = some (.cells #[x0, x1, x2, x3, x4, x5, x6] t)) :
    w.cell? ⟨g, 0, none⟩ = some x0 ∧ w.cell? ⟨g, 1, none⟩ = some x1 ∧ w.cell? ⟨g, 2, none⟩ = some x2 ∧ w.cell? ⟨g, 3, none⟩ = some x3 ∧ w.cell? ⟨g, 4, none⟩ = some x4 ∧ w.cell? ⟨g, 5, none⟩ = some x5 ∧ w.cell? ⟨g, 6, none⟩ = some x6 ∧ g < w.heap.size := by
  have hc := fun j => cell_of_row w g j _ t _ h
  exact ⟨hc 0, hc 1, hc 2, hc 3, hc 4, hc 5, hc 6, lt_of_heap h⟩

theorem heap_five {w : World} {g : Nat} {a b c d e x0 x1 x2 x3 x4 : Value} {t : TypeId} (h : w.heap[g]? = some (.cells #[a, b, c, d, e] t)) :
    (((((w.setCell ⟨g, 0, none⟩ x0).setCell ⟨g, 1, none⟩ x1).setCell ⟨g, 2, none⟩ x2).setCell ⟨g, 3, none⟩ x3).setCell ⟨g, 4, none⟩ x4).heap[g]? = some (.cells #[x0, x1, x2, x3, x4] t) := by
  simp [World.setCell, Array.getElem?_modify, h]

theorem heap_ne {w : World} {g j k : Nat} {x : Value} (h : k ≠ g) : (w.setCell ⟨g, j, none⟩ x).heap[k]? = w.heap[k]? := Below.heap_setCell _ _ _ _ h

theorem heap_seven2 {w : World} {g : Nat} {x0 x1 x2 x3 x4 x5 x6 y : Value} {t : TypeId} (h : w.heap[g]? = some (.cells #[x0, x1, x2, x3, x4, x5, x6] t)) : (w.setCell ⟨g, 2, none⟩ y).heap[g]? = some (.cells #[x0, x1, y, x3, x4, x5, x6] t) := by
  simp [World.setCell, Array.getElem?_modify, h]
theorem heap_seven3 {w : World} {g : Nat} {x0 x1 x2 x3 x4 x5 x6 y : Value} {t : TypeId} (h : w.heap[g]? = some (.cells #[x0, x1, x2, x3, x4, x5, x6] t)) : (w.setCell ⟨g, 3, none⟩ y).heap[g]? = some (.cells #[x0, x1, x2, y, x4, x5, x6] t) := by
  simp [World.setCell, Array.getElem?_modify, h]

/-- Bytes behind a file, as they lie. -/
theorem LS.appendV {K : Nat → Obj → Prop} {w wr : World} {X Xd : Nat → Prop} {g gd : Nat} {least : Int} {h : Hd} {d : Dk} (l : LS K w X Xd g gd least h d wr) (nm : ByteArray) (hn : nm.size ≤ 9223372036854775807) (L : List UInt8) (vs : Value) (F : Nat → Prop) (hv : RepBl wr F [L] vs) (hF : ∀ k, F k → k < wr.heap.size ∧ ¬ Xd k) (hu : D.used d.fs + L.length ≤ 1099511627776) :
    Calls Tryz.prog 54 #[.pointer (some ⟨gd, 0, none⟩), .string nm, vs] wr fun x w' => x = .returned (.int .i64 (D.append d nm [L]).1) ∧ Only Xd wr w' ∧ ∃ Xd', LS K w X Xd' g gd least h (D.append d nm [L]).2 w' := by
  refine (DAppend l.ds nm [L] F vs hn hv hF (by simp; omega)).mono fun x w' hp => ?_
  obtain ⟨h1, h2⟩ := l.disk hp
  exact ⟨h1, hp.2.1, h2⟩

/-- Bytes behind a file. -/
theorem LS.append1 {K : Nat → Obj → Prop} {w wr : World} {X Xd : Nat → Prop} {g gd : Nat} {least : Int} {h : Hd} {d : Dk} (l : LS K w X Xd g gd least h d wr) (nm : ByteArray) (hn : nm.size ≤ 9223372036854775807) (L : List UInt8) (v : Value) (F : Nat → Prop) (hv : RepB wr F L v) (hF : ∀ k, F k → k < wr.heap.size ∧ ¬ Xd k) (hu : D.used d.fs + L.length ≤ 1099511627776) (g0 : Nat) (hg : g0 = wr.heap.size) :
    Calls Tryz.prog 54 #[.pointer (some ⟨gd, 0, none⟩), .string nm, .slice (some ⟨g0, 0, none⟩) 1 1] (wr.alloc (.cells #[v] 34)) fun x w' => x = .returned (.int .i64 (D.append d nm [L]).1) ∧ Only Xd wr w' ∧ ∃ Xd', LS K w X Xd' g gd least h (D.append d nm [L]).2 w' := by
  subst hg
  have hb := below_alloc wr (.cells #[v] 34)
  have l2 := l.next hb
  refine (DAppend l2.ds nm [L] (fun k => F k ∨ k = wr.heap.size) _ hn (RepBl.one hv rfl fun k hk => (hF k hk).1) (fun k hk => ⟨?_, fun hx => ?_⟩) (by simp; omega)).mono fun x w' hp => ?_
  · rcases hk with hk | hk
    · have := (hF k hk).1; simp; omega
    · rw [hk]; simp
  · rcases hk with hk | hk
    · exact (hF k hk).2 hx
    · have := l.ds.lt _ hx; omega
  · obtain ⟨h1, h2⟩ := l2.disk hp
    exact ⟨h1, (Only.of_below hb).thn (fun _ h => .inl h) hp.2.1, h2⟩

/-- One row more. -/
theorem LS.pushRow {K : Nat → Obj → Prop} {w W w1 w3 : World} {X Xd : Nat → Prop} {g gd : Nat} {least : Int} {h : Hd} {d : Dk} {vr vf : Value} {rv : List (Rw × Value)} {e : En} {po : Int} {u v' : Value} {o : Obj}
    (l : LS K w X Xd g gd least h d W) (la : LgAt W X g gd least h vr vf rv) (hown : Own W e.b u w1) (happ : AppLeft (w1.alloc o) 0 77 5 vr rv.length 1 (rwCells rv) [.int .i64 e.idx, .int .i64 e.term, .int .i64 e.kind, u, .int .i64 po] v' w3) :
    ∃ X', LS K w X' Xd g gd least { h with rows := h.rows ++ [⟨e, po⟩] } d (w3.setCell ⟨g, 2, none⟩ v') := by
  obtain ⟨ho, hg, hb⟩ := happ
  have lz := l.lg.2
  have z1 := hown.1.size
  have z3 := hg.size
  simp only [World.size_alloc] at z3
  have hgX := la.fg
  have hgz := lz g hgX
  -- what stands
  have st3 : ∀ k, k < w1.heap.size → vr.ownBlock ≠ some k → w3.heap[k]? = w1.heap[k]? := fun k hk hn => by
    rw [hg.block k (by simp; omega) (fun e => hn e.symm), Below.heap_alloc _ _ _ hk]
  have stW : ∀ k, k < W.heap.size → vr.ownBlock ≠ some k → w3.heap[k]? = W.heap[k]? := fun k hk hn => (st3 k (by omega) hn).trans (hown.1.block k hk)
  have hgr : vr.ownBlock ≠ some g := fun e => (la.fr g e).2.1 rfl
  have hvg : v'.ownBlock ≠ some g := fun e => by
    rcases hb with hb | hb
    · exact hgr (hb ▸ e)
    · rw [hb] at e
      simp at e
      omega
  have onlyX : Only X W (w3.setCell ⟨g, 2, none⟩ v') := by
    refine ⟨?_, ?_, ?_, by simp; omega, fun k hk hn => ?_⟩
    · exact hg.os.trans hown.1.os
    · exact hg.tape.trans hown.1.tape
    · exact hg.output.trans hown.1.output
    · rw [heap_ne (fun e => hn (by rw [e]; exact hgX))]
      exact stW k hk fun e => hn (la.fr k e).1
  refine ⟨fun k => X k ∨ (W.heap.size ≤ k ∧ k < w3.heap.size), l.self onlyX (fun k hk => hk.imp id (·.1)) ⟨⟨v', vf, rv ++ [(⟨e, po⟩, u)], ?_⟩, fun k hk => ?_⟩⟩
  · have hvold : ∀ k, v'.ownBlock = some k → k < W.heap.size → vr.ownBlock = some k := fun k hk hl => by
      rcases hb with hb | hb
      · rw [← hb]; exact hk
      · rw [hb] at hk
        simp at hk
        omega
    refine ⟨?_, ?_, ?_, ?_, ?_, .inl hgX, ?_, ?_⟩
    · have := la.box
      rw [← stW g hgz hgr] at this
      exact heap_seven2 this
    · simp [la.rows]
    · rw [List.length_append, List.length_singleton]
      have e5 : rwCells (rv ++ [(⟨e, po⟩, u)]) = rwCells rv ++ [.int .i64 e.idx, .int .i64 e.term, .int .i64 e.kind, u, .int .i64 po] := by simp [rwCells, rwV]
      rw [e5]
      exact ownsRow_same ho fun k hk => heap_ne fun e => hvg (e ▸ hk)
    · exact ownsRow_same la.frow fun k hk => by
        have h1 := la.ff k hk
        rw [heap_ne h1.2]
        exact stW k (lz k h1.1) fun e => (la.fr k e).2.2 hk
    · intro p hp
      rcases List.mem_append.1 hp with hp | hp
      · obtain ⟨B, h1, h2⟩ := la.bod p hp
        refine ⟨B, h1.same (fun _ h => h) fun k hk => ?_, fun k hk => ?_⟩
        · obtain ⟨a1, a2, a3, a4⟩ := h2 k hk
          rw [heap_ne a2]
          exact stW k (lz k a1) a3
        · obtain ⟨a1, a2, a3, a4⟩ := h2 k hk
          exact ⟨.inl a1, a2, fun e => a3 (hvold k e (lz k a1)), a4⟩
      · obtain rfl : p = (⟨e, po⟩, u) := by simpa using hp
        refine ⟨fun k => W.heap.size ≤ k ∧ k < w1.heap.size, (RepB.of_own hown.2).same (fun _ h => h) fun k hk => ?_, fun k hk => ?_⟩
        · rw [heap_ne (by omega)]
          exact st3 k hk.2 fun e => by have := lz k (la.fr k e).1; omega
        · refine ⟨.inr ⟨hk.1, by omega⟩, by omega, fun e => ?_, fun e => by have := lz k (la.ff k e).1; omega⟩
          rcases hb with hb | hb
          · rw [hb] at e
            have := lz k (la.fr k e).1; omega
          · rw [hb] at e
            simp at e
            omega
    · intro k hk
      have hkz := (ho.lt k hk).2
      refine ⟨?_, fun e => hvg (e ▸ hk), fun e => ?_⟩
      · rcases Nat.lt_or_ge k W.heap.size with h1 | h1
        · exact .inl (la.fr k (hvold k hk h1)).1
        · exact .inr ⟨h1, hkz⟩
      · have h1 := lz k (la.ff k e).1
        exact (la.fr k (hvold k hk h1)).2.2 e
    · intro k hk
      exact ⟨.inl (la.ff k hk).1, (la.ff k hk).2⟩
  · rw [World.size_setCell]
    rcases hk with hk | hk
    · have := lz k hk; omega
    · exact hk.2

theorem fi_prefix {w : World} {a : Option Addr} {n c : Nat} {fs : List Fi} (h : w.ownsRow 0 75 5 (.slice a n c) fs.length (fiCells fs)) (m : Nat) (hm : m ≤ fs.length) : w.ownsRow 0 75 5 (.slice a m c) m (fiCells (fs.take m)) := by
  have e : (fiCells (fs.take m)).length = m * 5 := by rw [fiCells_length, List.length_take, Nat.min_eq_left hm]
  have e2 : (fiCells fs).take (m * 5) = fiCells (fs.take m) := by
    have h1 : fiCells fs = fiCells (fs.take m) ++ fiCells (fs.drop m) := by
      unfold fiCells
      rw [← List.flatMap_append, List.take_append_drop]
    rw [h1, ← e, List.take_left]
  rcases h.2 with ⟨h1, h2⟩ | ⟨g, cap, cur, hv, hg, hcur, hn2, hmx, hs, ht⟩
  · simp only [Value.slice.injEq] at h1
    obtain ⟨rfl, h1, rfl⟩ := h1
    have : m = 0 := by omega
    subst this
    exact ⟨e, .inl ⟨rfl, rfl⟩⟩
  · cases hv
    refine ⟨e, .inr ⟨g, c, cur, rfl, hg, hcur, by omega, hmx, hs, ?_⟩⟩
    have h3 : (cur.toList.take (fs.length * 5)).take (m * 5) = (fiCells fs).take (m * 5) := by rw [ht]
    rw [List.take_take, Nat.min_eq_left (by omega)] at h3
    rw [h3, e2]

/-- The segments turn. -/
theorem LS.pushFile {K : Nat → Obj → Prop} {w W w3 : World} {X Xd : Nat → Prop} {g gd : Nat} {least : Int} {h : Hd} {d : Dk} {vr vf v0 v' : Value} {rv : List (Rw × Value)} {f : Fi} {st : List Fi} {o : Obj}
    (l : LS K w X Xd g gd least h d W) (la : LgAt W X g gd least h vr vf rv) (h0 : v0.ownBlock = vf.ownBlock) (happ : AppLeft (W.alloc o) 0 75 5 v0 st.length 1 (fiCells st) (fiV f) v' w3) :
    ∃ X', LS K w X' Xd g gd least { h with files := st ++ [f] } d (w3.setCell ⟨g, 3, none⟩ v') := by
  obtain ⟨ho, hg, hb⟩ := happ
  rw [h0] at hg hb
  have lz := l.lg.2
  have z3 := hg.size
  simp only [World.size_alloc] at z3
  have hgX := la.fg
  have hgz := lz g hgX
  have stW : ∀ k, k < W.heap.size → vf.ownBlock ≠ some k → w3.heap[k]? = W.heap[k]? := fun k hk hn => by
    rw [hg.block k (by simp; omega) (fun e => hn e.symm), Below.heap_alloc _ _ _ hk]
  have hgf : vf.ownBlock ≠ some g := fun e => (la.ff g e).2 rfl
  have hvg : v'.ownBlock ≠ some g := fun e => by
    rcases hb with hb | hb
    · exact hgf (hb ▸ e)
    · rw [hb] at e
      simp at e
      omega
  have onlyX : Only X W (w3.setCell ⟨g, 3, none⟩ v') := by
    refine ⟨hg.os, hg.tape, hg.output, by simp; omega, fun k hk hn => ?_⟩
    rw [heap_ne (fun e => hn (by rw [e]; exact hgX))]
    exact stW k hk fun e => hn (la.ff k e).1
  have hvold : ∀ k, v'.ownBlock = some k → k < W.heap.size → vf.ownBlock = some k := fun k hk hl => by
    rcases hb with hb | hb
    · rw [← hb]; exact hk
    · rw [hb] at hk
      simp at hk
      omega
  refine ⟨fun k => X k ∨ (W.heap.size ≤ k ∧ k < w3.heap.size), l.self onlyX (fun k hk => hk.imp id (·.1)) ⟨⟨vr, v', rv, ?_⟩, fun k hk => ?_⟩⟩
  · refine ⟨?_, la.rows, ?_, ?_, ?_, .inl hgX, ?_, ?_⟩
    · have := la.box
      rw [← stW g hgz hgf] at this
      exact heap_seven3 this
    · exact ownsRow_same la.rrow fun k hk => by
        have h1 := la.fr k hk
        rw [heap_ne h1.2.1]
        exact stW k (lz k h1.1) h1.2.2
    · show World.ownsRow _ _ _ _ _ (st ++ [f]).length (fiCells (st ++ [f]))
      rw [List.length_append, List.length_singleton]
      have e5 : fiCells (st ++ [f]) = fiCells st ++ fiV f := by simp [fiCells]
      rw [e5]
      exact ownsRow_same ho fun k hk => heap_ne fun e => hvg (e ▸ hk)
    · intro p hp
      obtain ⟨B, h1, h2⟩ := la.bod p hp
      refine ⟨B, h1.same (fun _ h => h) fun k hk => ?_, fun k hk => ?_⟩
      · obtain ⟨a1, a2, a3, a4⟩ := h2 k hk
        rw [heap_ne a2]
        exact stW k (lz k a1) a4
      · obtain ⟨a1, a2, a3, a4⟩ := h2 k hk
        exact ⟨.inl a1, a2, a3, fun e => a4 (hvold k e (lz k a1))⟩
    · intro k hk
      obtain ⟨a1, a2, a3⟩ := la.fr k hk
      exact ⟨.inl a1, a2, fun e => a3 (hvold k e (lz k a1))⟩
    · intro k hk
      have hkz := (ho.lt k hk).2
      refine ⟨?_, fun e => hvg (e ▸ hk)⟩
      rcases Nat.lt_or_ge k W.heap.size with h1 | h1
      · exact .inl (la.ff k (hvold k hk h1)).1
      · exact .inr ⟨h1, hkz⟩
  · rw [World.size_setCell]
    rcases hk with hk | hk
    · have := lz k hk; omega
    · exact hk.2

theorem infoSgRow : (Tryz.prog.info? 77).map (fun i => (i.zero, i.size, i.bytes)) = some (some (.agg #[.int .i64 0, .int .i64 0, .int .i64 0, .slice none 0 0, .int .i64 0]), 5, 56) := by kernel_rfl
theorem infoSgFile : (Tryz.prog.info? 75).map (fun i => (i.zero, i.size, i.bytes)) = some (some (.agg #[.int .i64 0, .int .i64 0, .int .i64 0, .int .i64 0, .bool false]), 5, 40) := by kernel_rfl

theorem yields_five {w : World} {x0 x1 x2 x4 : Int} {a : Option Addr} {n c : Nat} {t : TypeId} {g : Nat} (hg : g = w.heap.size) : Yields (w.alloc (.cells #[.int .i64 x0, .int .i64 x1, .int .i64 x2, .slice a n c, .int .i64 x4] t)) (.slice (some ⟨g, 0, none⟩) 1 1) 1 5 [.int .i64 x0, .int .i64 x1, .int .i64 x2, .slice a n c, .int .i64 x4] := by
  subst hg
  refine ⟨rfl, fun u hu => ?_, .inr ⟨_, _, rfl, fun j u hj => ?_⟩⟩
  · simp at hu
    rcases hu with rfl | rfl | rfl | rfl | rfl <;> rfl
  · have h := cell_of_row _ w.heap.size j _ t _ (heap_alloc_new w (.cells #[.int .i64 x0, .int .i64 x1, .int .i64 x2, .slice a n c, .int .i64 x4] t))
    rw [addr_add, Nat.zero_add, h]
    simpa using hj

theorem heap_five3 {w : World} {g : Nat} {a b c d e x1 x2 x4 : Value} {t : TypeId} (h : w.heap[g]? = some (.cells #[a, b, c, d, e] t)) :
    (((w.setCell ⟨g, 2, none⟩ x2).setCell ⟨g, 1, none⟩ x1).setCell ⟨g, 4, none⟩ x4).heap[g]? = some (.cells #[a, x1, x2, d, x4] t) := by
  simp [World.setCell, Array.getElem?_modify, h]

/-- A cell of nobody's block is stored. -/
theorem LS.far {K : Nat → Obj → Prop} {w wr : World} {X Xd : Nat → Prop} {g gd : Nat} {least : Int} {h : Hd} {d : Dk} (l : LS K w X Xd g gd least h d wr) {q j : Nat} (v : Value) (hq : w.heap.size ≤ q) (hX : ¬ X q) (hXd : ¬ Xd q) (hK : ∀ o, ¬ K q o) : LS K w X Xd g gd least h d (wr.setCell ⟨q, j, none⟩ v) := by
  obtain ⟨⟨vr, vf, rv, la⟩, lz⟩ := l.lg
  have ne : ∀ k, k ≠ q → (wr.setCell ⟨q, j, none⟩ v).heap[k]? = wr.heap[k]? := fun k hk => heap_ne hk
  refine ⟨l.ds.set hq hXd, ⟨⟨vr, vf, rv, la.same (fun _ h => h) fun k hk => ne k fun e => hX (e ▸ hk)⟩, fun k hk => by rw [World.size_setCell]; exact lz k hk⟩, l.own, l.dis, fun k o hk => ⟨(ne k fun e => hK o (e ▸ hk)).trans (l.kp k o hk).1, (l.kp k o hk).2⟩⟩

theorem yields_fi {w : World} {x0 x1 x2 x3 : Int} {b : Bool} {t : TypeId} {g : Nat} (hg : g = w.heap.size) : Yields (w.alloc (.cells #[.int .i64 x0, .int .i64 x1, .int .i64 x2, .int .i64 x3, .bool b] t)).drew (.slice (some ⟨g, 0, none⟩) 1 1) 1 5 [.int .i64 x0, .int .i64 x1, .int .i64 x2, .int .i64 x3, .bool b] := by
  subst hg
  refine ⟨rfl, fun u hu => ?_, .inr ⟨_, _, rfl, fun j u hj => ?_⟩⟩
  · simp at hu
    rcases hu with rfl | rfl | rfl | rfl | rfl <;> rfl
  · have h := cell_of_row (w.alloc (.cells #[.int .i64 x0, .int .i64 x1, .int .i64 x2, .int .i64 x3, .bool b] t)).drew w.heap.size j _ t _ (heap_alloc_new w (.cells #[.int .i64 x0, .int .i64 x1, .int .i64 x2, .int .i64 x3, .bool b] t))
    rw [addr_add, Nat.zero_add, h]
    simpa using hj

/-- The segment that the next row goes into, and those that stay ahead of it. -/
def layTo (least : Int) (h : Hd) (e : En) : Fi × List Fi := match h.files.getLast? with
  | some f => if f.size < least then (f, h.files.dropLast) else (⟨e.idx, 0, 0, 0, false⟩, h.files)
  | none => (⟨e.idx, 0, 0, 0, false⟩, h.files)

theorem layE_eq (least : Int) (h : Hd) (d : Dk) (e : En) : layE least h d e =
    (let r := D.append d (sgName (layTo least h e).1.first) [sgRow e]
    if r.1 ≠ 0 then (r.1, h, r.2)
    else (0, { h with rows := h.rows ++ [⟨e, (layTo least h e).1.size⟩], files := (layTo least h e).2 ++ [{ (layTo least h e).1 with size := (layTo least h e).1.size + (sgRow e).length, last := e.idx, loose := true }] }, r.2)) := by
  unfold layE layTo
  cases h.files.getLast? with
  | none => rfl
  | some f =>
    by_cases hf : f.size < least
    · simp [hf]
    · simp [hf]

set_option maxRecDepth 20000 in
set_option maxHeartbeats 6400000 in
/-- The first part: which segment. -/
theorem sgLay_any (K : Nat → Obj → Prop) (w wr : World) (X Xd : Nat → Prop) (g gd : Nat) (least : Int) (h : Hd) (d : Dk) (e : En) (L : List UInt8) (ve vb : Value) (Fe Fb : Nat → Prop)
    (l : LS K w X Xd g gd least h d wr) (ho : HdOk h) (he : 0 ≤ e.idx ∧ e.idx < 10000000000) (hve : RepB wr Fe e.b ve) (hFe : ∀ k, Fe k → k < wr.heap.size ∧ ¬ X k ∧ ¬ Xd k) (hel : e.b.length ≤ 1048576)
    (hvb : RepB wr Fb L vb) (hFb : ∀ k, Fb k → k < wr.heap.size ∧ ¬ X k ∧ ¬ Xd k) (hL : L = sgRow e) (hu : D.used d.fs ≤ 1000000000) (hP : Hid (Pow10 wr)) :
    Calls Tryz.prog 27 #[.pointer (some ⟨g, 0, none⟩), enAgg e ve, vb] wr fun x w' => x = .returned (.int .i64 (layE least h d e).1) ∧ ∃ X' Xd', LS K w X' Xd' g gd least (layE least h d e).2.1 (layE least h d e).2.2 w' := by
  obtain ⟨ea, ec, rfl, -⟩ := hve.slice
  obtain ⟨ba, bc, rfl, -⟩ := hvb.slice
  have HL := Lib.hid l
  have HO := Lib.hid ho
  have HVE := Lib.hid hve
  have HVB := Lib.hid hvb
  have HFE := Lib.hid hFe
  have HFB := Lib.hid hFb
  have HLE := Lib.hid hL
  have HU := Lib.hid hu
  obtain ⟨xi, xt, xk, xb⟩ := e
  simp only at he hel HVE HVB
  unfold enAgg
  simp only
  obtain ⟨n, hn⟩ : ∃ n, n = xb.length := ⟨_, rfl⟩
  rw [← hn] at HVE hel ⊢
  have HN := Lib.hid hn
  obtain ⟨m, hm⟩ : ∃ m, m = L.length := ⟨_, rfl⟩
  rw [← hm] at HVB ⊢
  have HM := Lib.hid hm
  obtain ⟨⟨vr, vf, rv, la⟩, lz⟩ := l.lg
  have HLA := Lib.hid la
  have HLZ := Lib.hid lz
  obtain ⟨c0, c1, c2, c3, c4, c5, c6, cz⟩ := seven_cells la.box
  obtain ⟨fa, fc, hvf, hfl, hfm⟩ := row5_slice la.frow
  obtain ⟨ra, rc, hvr, hrl, hrm⟩ := row5_slice la.rrow
  have hfn := ho.fl
  obtain ⟨nf, hnf⟩ : ∃ nf, nf = h.files.length := ⟨_, rfl⟩
  rw [← hnf] at hfl hfn hvf
  have HNF := Lib.hid hnf
  subst hvf
  clear hve hvb hFe hFb hL hu l ho hn hm la lz hnf c0 c1 c4
  obtain ⟨We, hWe⟩ : ∃ We, We = wr.alloc (.cells #[.int .i64 xi, .int .i64 xt, .int .i64 xk, .slice ea n ec] 36) := ⟨_, rfl⟩
  have HWE := Lib.hid hWe
  have hbe : Below wr.heap.size wr We := by rw [hWe]; exact below_alloc _ _
  have HBE := Lib.hid hbe
  obtain ⟨ge, hge⟩ : ∃ ge, ge = wr.heap.size := ⟨_, rfl⟩
  have HGE := Lib.hid hge
  have HXE : Hid (We.heap[ge]? = some (.cells #[.int .i64 xi, .int .i64 xt, .int .i64 xk, .slice ea n ec] 36)) := Lib.hid (by rw [hWe, hge]; exact heap_new _ _ _ rfl)
  clear hWe hge
  go_enter Tryz.func27, Tryz.ntmps27
  go_wp2_with fail
  rw [← HWE.out, ← HGE.out]
  have old : ∀ (w' : World) (q j : Nat) (u : Value), Below We.heap.size We w' → q < wr.heap.size → wr.cell? ⟨q, j, none⟩ = some u → w'.cell? ⟨q, j, none⟩ = some u := fun w' q j u hw' hq hu => (hw'.cell (p := ⟨q, j, none⟩) (by show q < _; have := HBE.out.size; omega)).trans ((HBE.out.cell (p := ⟨q, j, none⟩) hq).trans hu)
  obtain ⟨x0, x1, x2, x3, xz⟩ := four_cells HXE.out
  have r0 : ∀ w', Below We.heap.size We w' → w'.cell? ⟨ge, 0, none⟩ = some (.int .i64 xi) := fun w' hw' => (hw'.cell xz).trans x0
  have r3 : ∀ w', Below We.heap.size We w' → w'.cell? ⟨g, 3, none⟩ = some (.slice fa nf fc) := fun w' hw' => old w' _ _ _ hw' cz c3
  have HC3 := Lib.hid c3
  have HC56 := Lib.hid (And.intro c5 (And.intro c6 cz))
  clear x0 x1 x2 x3 c2 c3
  have hS : Below We.heap.size We We.drew := (Below.refl _ _).drew
  refine wp_region_held (S := fun w' => Below We.heap.size We w') (by kernel_rfl) ?_
  refine H_take (i := 0) (v := ?_) rfl (by as_aux_lemma => kernel_rfl) (by as_aux_lemma => kernel_rfl) (by as_aux_lemma => kernel_rfl) (fun _ _ _ h => h) (by rfl) hS ?_ ?_
  rotate_left
  · intro w' hw'; go_simp; with_reducible rfl
  go_simp
  refine H_take (i := 1) (v := ?_) rfl (by as_aux_lemma => kernel_rfl) (by as_aux_lemma => kernel_rfl) (by as_aux_lemma => kernel_rfl) (fun _ _ _ h => h) (by rfl) hS ?_ ?_
  rotate_left
  · intro w' hw'; go_simp; with_reducible rfl
  go_simp
  refine H_take (i := 2) (v := ?_) rfl (by as_aux_lemma => kernel_rfl) (by as_aux_lemma => kernel_rfl) (by as_aux_lemma => kernel_rfl) (fun _ _ _ h => h) (by rfl) hS ?_ ?_
  rotate_left
  · intro w' hw'; go_simp; with_reducible rfl
  go_simp
  refine H_take (i := 3) (v := ?_) rfl (by as_aux_lemma => kernel_rfl) (by as_aux_lemma => kernel_rfl) (by as_aux_lemma => kernel_rfl) (fun _ _ _ h => h) (by rfl) hS ?_ ?_
  rotate_left
  · intro w' hw'; go_simp; with_reducible rfl
  go_simp
  refine H_take (i := 4) (v := ?_) rfl (by as_aux_lemma => kernel_rfl) (by as_aux_lemma => kernel_rfl) (by as_aux_lemma => kernel_rfl) (fun _ _ _ h => h) (by rfl) hS ?_ ?_
  rotate_left
  · intro w' hw'; go_simp; with_reducible rfl
  go_simp
  refine H_take (i := 5) (v := ?_) rfl (by as_aux_lemma => kernel_rfl) (by as_aux_lemma => kernel_rfl) (by as_aux_lemma => kernel_rfl) (fun _ _ _ h => h) (by rfl) hS ?_ ?_
  rotate_left
  · intro w' hw'; go_simp; with_reducible rfl
  go_simp
  refine H_take (i := 6) (v := ?_) rfl (by as_aux_lemma => kernel_rfl) (by as_aux_lemma => kernel_rfl) (by as_aux_lemma => kernel_rfl) (fun _ _ _ h => h) (by rfl) hS ?_ ?_
  rotate_left
  · intro w' hw'; go_simp; with_reducible rfl
  go_simp
  refine H_take (i := 7) (v := ?_) rfl (by as_aux_lemma => kernel_rfl) (by as_aux_lemma => kernel_rfl) (by as_aux_lemma => kernel_rfl) (fun _ _ _ h => h) (by rfl) hS ?_ ?_
  rotate_left
  · intro w' hw'; go_simp; with_reducible rfl
  go_simp
  refine H_take (i := 8) (v := ?_) rfl (by as_aux_lemma => kernel_rfl) (by as_aux_lemma => kernel_rfl) (by as_aux_lemma => kernel_rfl) (fun _ _ _ h => h) (by rfl) hS ?_ ?_
  rotate_left
  · intro w' hw'; go_simp; with_reducible rfl
  go_simp
  refine H_one (i := 9) (by as_aux_lemma => kernel_rfl) rfl (by rfl) ?_
  go_simp
  have hS1 : Below We.heap.size We (We.alloc (.cells #[.int .i64 0, .int .i64 0, .int .i64 0, .int .i64 0, .bool false] 75)).drew := (below_alloc _ _).drew
  refine ⟨hS1, ?_⟩
  refine H_one (i := 10) (by as_aux_lemma => kernel_rfl) rfl (by rfl) ?_
  go_simp
  obtain ⟨W2, hW2⟩ : ∃ W2, W2 = (We.alloc (.cells #[.int .i64 xi, .int .i64 0, .int .i64 0, .int .i64 0, .bool false] 75)).drew := ⟨_, rfl⟩
  have hS2 : Below We.heap.size We W2 := by rw [hW2]; exact (below_alloc _ _).drew
  have HB2 : Hid (Below wr.heap.size wr W2) := Lib.hid (HBE.out.trans (hS2.mono HBE.out.size))
  have hx2 : W2.heap[We.heap.size]? = some (.cells #[.int .i64 xi, .int .i64 0, .int .i64 0, .int .i64 0, .bool false] 75) := by rw [hW2]; exact heap_alloc_new _ _
  have HXE2 := Lib.hid (old_below HXE.out hS2)
  rw [← hW2]
  clear hW2
  refine ⟨hS2, ?_⟩
  refine H_take (i := 11) (v := ?_) rfl (by as_aux_lemma => kernel_rfl) (by as_aux_lemma => kernel_rfl) (by as_aux_lemma => kernel_rfl) (fun _ _ _ h => h) (by rfl) hS2 ?_ ?_
  rotate_left
  · intro w' hw'; go_simp; with_reducible rfl
  go_simp
  refine wpAnyH_done (by as_aux_lemma => kernel_rfl) ?_ _
  clear hS hS1 hS2 r0 r3 old
  obtain ⟨g7, hg7⟩ : ∃ g7, g7 = We.heap.size := ⟨_, rfl⟩
  have HG7 : Hid (g7 = We.heap.size ∧ ge = wr.heap.size ∧ ge + 1 = g7) := Lib.hid ⟨hg7, HGE.out, by rw [hg7, HGE.out, HWE.out]; simp⟩
  rw [← hg7] at hx2 ⊢
  have HX2 := Lib.hid hx2
  clear hg7 hx2 xz
  obtain ⟨ft, hft⟩ : ∃ ft, ft = layTo least h ⟨xi, xt, xk, xb⟩ := ⟨_, rfl⟩
  have HFT := Lib.hid hft
  obtain ⟨⟨ff, fl, fs, fo, fb⟩, st⟩ := ft
  clear hft
  -- is there a last one with room?
  have HCASE : Hid ((nf = 0 ∧ ff = xi ∧ fl = 0 ∧ fs = 0 ∧ fo = 0 ∧ fb = false ∧ st = h.files) ∨ (∃ (n0 : Nat) (lf : Fi) (hn : n0 < h.files.length), nf = n0 + 1 ∧ h.files[n0] = lf ∧ ((¬ lf.size < least ∧ ff = xi ∧ fl = 0 ∧ fs = 0 ∧ fo = 0 ∧ fb = false ∧ st = h.files) ∨ (lf.size < least ∧ lf = ⟨ff, fl, fs, fo, fb⟩ ∧ st = h.files.take n0 ∧ st.length = n0)))) := Lib.hid (by
    have h1 := HFT.out
    have h2 := HNF.out
    unfold layTo at h1
    rcases h.files.eq_nil_or_concat with hnil | ⟨fs0, lf, hcat⟩
    · left
      rw [hnil] at h1 h2
      simp only [List.getLast?_nil, Prod.mk.injEq, Fi.mk.injEq] at h1
      obtain ⟨⟨a1, a2, a3, a4, a5⟩, a6⟩ := h1
      exact ⟨h2, a1, a2, a3, a4, a5, by rw [a6, hnil]⟩
    · right
      rw [List.concat_eq_append] at hcat
      rw [hcat, List.getLast?_concat] at h1
      refine ⟨fs0.length, lf, by rw [hcat]; simp, by rw [h2, hcat]; simp, by simp [hcat], ?_⟩
      by_cases hs : lf.size < least
      · right
        simp only [if_pos hs, Prod.mk.injEq] at h1
        rw [List.dropLast_concat] at h1
        exact ⟨hs, h1.1.symm, by rw [h1.2, hcat]; simp, by rw [h1.2]⟩
      · left
        simp only [if_neg hs, Prod.mk.injEq, Fi.mk.injEq] at h1
        obtain ⟨⟨a1, a2, a3, a4, a5⟩, a6⟩ := h1
        exact ⟨hs, a1, a2, a3, a4, a5, by rw [a6, hcat]⟩)
  obtain ⟨bo, hbo⟩ : ∃ bo : Bool, bo = decide (∃ (n0 : Nat) (hn : n0 < h.files.length), nf = n0 + 1 ∧ h.files[n0].size < least) := ⟨_, rfl⟩
  have HBO := Lib.hid hbo
  clear hbo
  have HEL : Hid (∀ (n0 : Nat) (hn : n0 < h.files.length), ∃ ga, fa = some ⟨ga, 0, none⟩ ∧ ga < wr.heap.size ∧ wr.cell? ⟨ga, n0 * 5, none⟩ = some (.int .i64 h.files[n0].first) ∧ wr.cell? ⟨ga, n0 * 5 + 1, none⟩ = some (.int .i64 h.files[n0].last) ∧ wr.cell? ⟨ga, n0 * 5 + 2, none⟩ = some (.int .i64 h.files[n0].size) ∧ wr.cell? ⟨ga, n0 * 5 + 3, none⟩ = some (.int .i64 h.files[n0].torn) ∧ wr.cell? ⟨ga, n0 * 5 + 4, none⟩ = some (.bool h.files[n0].loose)) := Lib.hid fun n0 hn => by
    obtain ⟨ga, c, hv, hgz, -, -, hel, -⟩ := row5_elem (f := fiV) (fun _ => rfl) HLA.out.frow n0 hn
    cases hv
    exact ⟨ga, rfl, hgz, hel 0 (by omega), hel 1 (by omega), hel 2 (by omega), hel 3 (by omega), hel 4 (by omega)⟩
  have HFN : Hid (nf ≤ 1000000) := Lib.hid hfn
  clear hfl hfm hfn hrl hrm c5 c6 cz
  go_upto_region 2 with fail
  go_cut [37] from 19 (fun s w' => s = .bool bo ∧ w' = W2.drew)
  case first =>
    have hS : Below W2.heap.size W2 W2.drew := (Below.refl _ _).drew
    rcases HCASE.out with ⟨rfl, -⟩ | ⟨n0, lf, hn0, rfl, hlf, -⟩
    · have hbf : bo = false := by
        rw [HBO.out]
        apply decide_eq_false
        rintro ⟨n0, hn, h1, -⟩
        omega
      subst hbf
      refine wp_region_held (S := fun w' => Below W2.heap.size W2 w') (by kernel_rfl) ?_
      refine H_take (i := 0) (v := ?_) rfl (by as_aux_lemma => kernel_rfl) (by as_aux_lemma => kernel_rfl) (by as_aux_lemma => kernel_rfl) (fun _ _ _ h => h) (by rfl) hS ?_ ?_
      rotate_left
      · intro w' hw'; go_simp; with_reducible rfl
      go_simp
      refine H_take (i := 1) (v := ?_) rfl (by as_aux_lemma => kernel_rfl) (by as_aux_lemma => kernel_rfl) (by as_aux_lemma => kernel_rfl) (fun _ _ _ h => h) (by rfl) hS ?_ ?_
      rotate_left
      · intro w' hw'; go_simp; with_reducible rfl
      go_simp
      refine H_take (i := 2) (v := ?_) rfl (by as_aux_lemma => kernel_rfl) (by as_aux_lemma => kernel_rfl) (by as_aux_lemma => kernel_rfl) (fun _ _ _ h => h) (by rfl) hS ?_ ?_
      rotate_left
      · intro w' hw'; go_simp; with_reducible rfl
      go_simp
      refine H_skip (i := 3) rfl (by as_aux_lemma => kernel_rfl) (by as_aux_lemma => kernel_rfl) (by as_aux_lemma => kernel_rfl) (fun _ _ _ h => h) (by rfl) hS ?_
      go_simp
      refine H_skip (i := 4) rfl (by as_aux_lemma => kernel_rfl) (by as_aux_lemma => kernel_rfl) (by as_aux_lemma => kernel_rfl) (fun _ _ _ h => h) (by rfl) hS ?_
      go_simp
      refine H_skip (i := 5) rfl (by as_aux_lemma => kernel_rfl) (by as_aux_lemma => kernel_rfl) (by as_aux_lemma => kernel_rfl) (fun _ _ _ h => h) (by rfl) hS ?_
      go_simp
      refine H_skip (i := 6) rfl (by as_aux_lemma => kernel_rfl) (by as_aux_lemma => kernel_rfl) (by as_aux_lemma => kernel_rfl) (fun _ _ _ h => h) (by rfl) hS ?_
      go_simp
      refine H_skip (i := 7) rfl (by as_aux_lemma => kernel_rfl) (by as_aux_lemma => kernel_rfl) (by as_aux_lemma => kernel_rfl) (fun _ _ _ h => h) (by rfl) hS ?_
      go_simp
      refine H_skip (i := 8) rfl (by as_aux_lemma => kernel_rfl) (by as_aux_lemma => kernel_rfl) (by as_aux_lemma => kernel_rfl) (fun _ _ _ h => h) (by rfl) hS ?_
      go_simp
      refine H_skip (i := 9) rfl (by as_aux_lemma => kernel_rfl) (by as_aux_lemma => kernel_rfl) (by as_aux_lemma => kernel_rfl) (fun _ _ _ h => h) (by rfl) hS ?_
      go_simp
      refine H_skip (i := 10) rfl (by as_aux_lemma => kernel_rfl) (by as_aux_lemma => kernel_rfl) (by as_aux_lemma => kernel_rfl) (fun _ _ _ h => h) (by rfl) hS ?_
      go_simp
      refine H_skip (i := 11) rfl (by as_aux_lemma => kernel_rfl) (by as_aux_lemma => kernel_rfl) (by as_aux_lemma => kernel_rfl) (fun _ _ _ h => h) (by rfl) hS ?_
      go_simp
      refine H_skip (i := 12) rfl (by as_aux_lemma => kernel_rfl) (by as_aux_lemma => kernel_rfl) (by as_aux_lemma => kernel_rfl) (fun _ _ _ h => h) (by rfl) hS ?_
      go_simp
      refine H_skip (i := 13) rfl (by as_aux_lemma => kernel_rfl) (by as_aux_lemma => kernel_rfl) (by as_aux_lemma => kernel_rfl) (fun _ _ _ h => h) (by rfl) hS ?_
      go_simp
      refine H_skip (i := 14) rfl (by as_aux_lemma => kernel_rfl) (by as_aux_lemma => kernel_rfl) (by as_aux_lemma => kernel_rfl) (fun _ _ _ h => h) (by rfl) hS ?_
      go_simp
      refine H_skip (i := 15) rfl (by as_aux_lemma => kernel_rfl) (by as_aux_lemma => kernel_rfl) (by as_aux_lemma => kernel_rfl) (fun _ _ _ h => h) (by rfl) hS ?_
      go_simp
      refine H_skip (i := 16) rfl (by as_aux_lemma => kernel_rfl) (by as_aux_lemma => kernel_rfl) (by as_aux_lemma => kernel_rfl) (fun _ _ _ h => h) (by rfl) hS ?_
      go_simp
      refine H_skip (i := 17) rfl (by as_aux_lemma => kernel_rfl) (by as_aux_lemma => kernel_rfl) (by as_aux_lemma => kernel_rfl) (fun _ _ _ h => h) (by rfl) hS ?_
      go_simp
      refine H_take (i := 18) (v := ?_) rfl (by as_aux_lemma => kernel_rfl) (by as_aux_lemma => kernel_rfl) (by as_aux_lemma => kernel_rfl) (fun _ _ _ h => h) (by rfl) hS ?_ ?_
      rotate_left
      · intro w' hw'; go_simp; with_reducible rfl
      go_simp
      refine wpAnyH_done (by as_aux_lemma => kernel_rfl) ?_ _
      clear hS
      go_wp2_with fail
      go_meet
      case rel => exact ⟨rfl, rfl⟩
    · have hbf : bo = decide (lf.size < least) := by
        rw [HBO.out]
        by_cases hs : lf.size < least
        · rw [decide_eq_true hs, decide_eq_true ⟨n0, hn0, rfl, by rw [hlf]; exact hs⟩]
        · rw [decide_eq_false hs]
          apply decide_eq_false
          rintro ⟨n1, hn1, h1, h2⟩
          obtain rfl : n0 = n1 := by omega
          rw [hlf] at h2
          exact hs h2
      obtain ⟨ga, rfl, hgz, -, -, e2, -, -⟩ := HEL.out n0 hn0
      rw [hlf] at e2
      have hn1 := HFN.out
      have hq0 : (0 : Int) < (n0 : Int) + 1 := by omega
      have hwn : IntKind.i64.wrap (n0 : Int) = (n0 : Int) := IntWalk.i64_in _ (by omega)
      have hq1 : (n0 : Int) < (n0 : Int) + 1 := by omega
      have old : ∀ (w' : World) (q j : Nat) (u : Value), Below W2.heap.size W2 w' → q < wr.heap.size → wr.cell? ⟨q, j, none⟩ = some u → w'.cell? ⟨q, j, none⟩ = some u := fun w' q j u hw' hq hu => (hw'.cell (p := ⟨q, j, none⟩) (by show q < _; have := HB2.out.size; omega)).trans ((HB2.out.cell (p := ⟨q, j, none⟩) hq).trans hu)
      have r3 : ∀ w', Below W2.heap.size W2 w' → w'.cell? ⟨g, 3, none⟩ = some (.slice (some ⟨ga, 0, none⟩) (n0 + 1) fc) := fun w' hw' => old w' _ _ _ hw' HC56.out.2.2 HC3.out
      have r6 : ∀ w', Below W2.heap.size W2 w' → w'.cell? ⟨g, 6, none⟩ = some (.int .i64 least) := fun w' hw' => old w' _ _ _ hw' HC56.out.2.2 HC56.out.2.1
      have p2 : ∀ w', Below W2.heap.size W2 w' → w'.cell? ⟨ga, n0 * 5 + 2, none⟩ = some (.int .i64 lf.size) := fun w' hw' => old w' _ _ _ hw' hgz e2
      have HBF := Lib.hid hbf
      clear hbf old e2 hn0 hlf
      refine wp_region_held (S := fun w' => Below W2.heap.size W2 w') (by kernel_rfl) ?_
      refine H_take (i := 0) (v := ?_) rfl (by as_aux_lemma => kernel_rfl) (by as_aux_lemma => kernel_rfl) (by as_aux_lemma => kernel_rfl) (fun _ _ _ h => h) (by rfl) hS ?_ ?_
      rotate_left
      · intro w' hw'; go_simp; with_reducible rfl
      go_simp
      refine H_take (i := 1) (v := ?_) rfl (by as_aux_lemma => kernel_rfl) (by as_aux_lemma => kernel_rfl) (by as_aux_lemma => kernel_rfl) (fun _ _ _ h => h) (by rfl) hS ?_ ?_
      rotate_left
      · intro w' hw'; go_simp; with_reducible rfl
      go_simp
      refine H_take (i := 2) (v := ?_) rfl (by as_aux_lemma => kernel_rfl) (by as_aux_lemma => kernel_rfl) (by as_aux_lemma => kernel_rfl) (fun _ _ _ h => h) (by rfl) hS ?_ ?_
      rotate_left
      · intro w' hw'; go_simp; with_reducible rfl
      go_simp
      refine H_take (i := 3) (v := ?_) rfl (by as_aux_lemma => kernel_rfl) (by as_aux_lemma => kernel_rfl) (by as_aux_lemma => kernel_rfl) (fun _ _ _ h => h) (by rfl) hS ?_ ?_
      rotate_left
      · intro w' hw'; go_simp; with_reducible rfl
      go_simp
      refine H_take (i := 4) (v := ?_) rfl (by as_aux_lemma => kernel_rfl) (by as_aux_lemma => kernel_rfl) (by as_aux_lemma => kernel_rfl) (fun _ _ _ h => h) (by rfl) hS ?_ ?_
      rotate_left
      · intro w' hw'; go_simp; with_reducible rfl
      go_simp
      refine H_take (i := 5) (v := ?_) rfl (by as_aux_lemma => kernel_rfl) (by as_aux_lemma => kernel_rfl) (by as_aux_lemma => kernel_rfl) (fun _ _ _ h => h) (by rfl) hS ?_ ?_
      rotate_left
      · intro w' hw'; go_simp; with_reducible rfl
      go_simp
      refine H_take (i := 6) (v := ?_) rfl (by as_aux_lemma => kernel_rfl) (by as_aux_lemma => kernel_rfl) (by as_aux_lemma => kernel_rfl) (fun _ _ _ h => h) (by rfl) hS ?_ ?_
      rotate_left
      · intro w' hw'; go_simp; with_reducible rfl
      go_simp
      refine H_take (i := 7) (v := ?_) rfl (by as_aux_lemma => kernel_rfl) (by as_aux_lemma => kernel_rfl) (by as_aux_lemma => kernel_rfl) (fun _ _ _ h => h) (by rfl) hS ?_ ?_
      rotate_left
      · intro w' hw'; go_simp; with_reducible rfl
      go_simp
      refine H_take (i := 8) (v := ?_) rfl (by as_aux_lemma => kernel_rfl) (by as_aux_lemma => kernel_rfl) (by as_aux_lemma => kernel_rfl) (fun _ _ _ h => h) (by rfl) hS ?_ ?_
      rotate_left
      · intro w' hw'; go_simp; with_reducible rfl
      go_simp
      refine H_take (i := 9) (v := ?_) rfl (by as_aux_lemma => kernel_rfl) (by as_aux_lemma => kernel_rfl) (by as_aux_lemma => kernel_rfl) (fun _ _ _ h => h) (by rfl) hS ?_ ?_
      rotate_left
      · intro w' hw'; go_simp; with_reducible rfl
      go_simp
      refine H_take (i := 10) (v := ?_) rfl (by as_aux_lemma => kernel_rfl) (by as_aux_lemma => kernel_rfl) (by as_aux_lemma => kernel_rfl) (fun _ _ _ h => h) (by rfl) hS ?_ ?_
      rotate_left
      · intro w' hw'; go_simp; with_reducible rfl
      go_simp
      refine H_take (i := 11) (v := ?_) rfl (by as_aux_lemma => kernel_rfl) (by as_aux_lemma => kernel_rfl) (by as_aux_lemma => kernel_rfl) (fun _ _ _ h => h) (by rfl) hS ?_ ?_
      rotate_left
      · intro w' hw'; go_simp; with_reducible rfl
      go_simp
      refine H_take (i := 12) (v := ?_) rfl (by as_aux_lemma => kernel_rfl) (by as_aux_lemma => kernel_rfl) (by as_aux_lemma => kernel_rfl) (fun _ _ _ h => h) (by rfl) hS ?_ ?_
      rotate_left
      · intro w' hw'; go_simp; with_reducible rfl
      go_simp
      refine H_take (i := 13) (v := ?_) rfl (by as_aux_lemma => kernel_rfl) (by as_aux_lemma => kernel_rfl) (by as_aux_lemma => kernel_rfl) (fun _ _ _ h => h) (by rfl) hS ?_ ?_
      rotate_left
      · intro w' hw'; go_simp; with_reducible rfl
      go_simp
      refine H_take (i := 14) (v := ?_) rfl (by as_aux_lemma => kernel_rfl) (by as_aux_lemma => kernel_rfl) (by as_aux_lemma => kernel_rfl) (fun _ _ _ h => h) (by rfl) hS ?_ ?_
      rotate_left
      · intro w' hw'; go_simp; with_reducible rfl
      go_simp
      refine H_take (i := 15) (v := ?_) rfl (by as_aux_lemma => kernel_rfl) (by as_aux_lemma => kernel_rfl) (by as_aux_lemma => kernel_rfl) (fun _ _ _ h => h) (by rfl) hS ?_ ?_
      rotate_left
      · intro w' hw'; go_simp; with_reducible rfl
      go_simp
      refine H_take (i := 16) (v := ?_) rfl (by as_aux_lemma => kernel_rfl) (by as_aux_lemma => kernel_rfl) (by as_aux_lemma => kernel_rfl) (fun _ _ _ h => h) (by rfl) hS ?_ ?_
      rotate_left
      · intro w' hw'; go_simp; with_reducible rfl
      go_simp
      refine H_take (i := 17) (v := ?_) rfl (by as_aux_lemma => kernel_rfl) (by as_aux_lemma => kernel_rfl) (by as_aux_lemma => kernel_rfl) (fun _ _ _ h => h) (by rfl) hS ?_ ?_
      rotate_left
      · intro w' hw'; go_simp; with_reducible rfl
      go_simp
      refine H_take (i := 18) (v := ?_) rfl (by as_aux_lemma => kernel_rfl) (by as_aux_lemma => kernel_rfl) (by as_aux_lemma => kernel_rfl) (fun _ _ _ h => h) (by rfl) hS ?_ ?_
      rotate_left
      · intro w' hw'; go_simp; with_reducible rfl
      go_simp
      refine wpAnyH_done (by as_aux_lemma => kernel_rfl) ?_ _
      clear hS r3 r6 p2
      go_wp2_with fail
      go_meet
      case rel => exact ⟨by rw [HBF.out], rfl⟩
  case rest =>
    obtain ⟨rfl, rfl⟩ := hcut
    go_upto_if 37 with fail
    go_cut [8] from 19 (fun s w' => s = .int .i64 (st.length : Int) ∧ Hid (Below wr.heap.size wr w') ∧ w'.heap[g7]? = some (.cells #[.int .i64 ff, .int .i64 fl, .int .i64 fs, .int .i64 fo, .bool fb] 75) ∧ w'.heap[ge]? = some (.cells #[.int .i64 xi, .int .i64 xt, .int .i64 xk, .slice ea n ec] 36))
    case first =>
      have hb2 : Hid (Below wr.heap.size wr W2.drew) := Lib.hid HB2.out.drew
      have hx7 : W2.drew.heap[g7]? = some (.cells #[.int .i64 xi, .int .i64 0, .int .i64 0, .int .i64 0, .bool false] 75) := HX2.out
      have HX7 := Lib.hid hx7
      obtain ⟨W3, hW3⟩ : ∃ W3, W3 = W2.drew := ⟨_, rfl⟩
      have HXE3 : Hid (W3.heap[ge]? = some (.cells #[.int .i64 xi, .int .i64 xt, .int .i64 xk, .slice ea n ec] 36)) := Lib.hid (by rw [hW3]; exact HXE2.out)
      rw [← hW3] at hb2 HX7 hx7 ⊢
      clear hW3
      cases bo with
      | false =>
        have HK : Hid (ff = xi ∧ fl = 0 ∧ fs = 0 ∧ fo = 0 ∧ fb = false ∧ st.length = nf) := Lib.hid (by
          rcases HCASE.out with ⟨a0, a1, a2, a3, a4, a5, a6⟩ | ⟨n0, lf, hn0, a0, hlf, hc⟩
          · exact ⟨a1, a2, a3, a4, a5, by rw [a6]; exact HNF.out.symm⟩
          · rcases hc with ⟨a7, a1, a2, a3, a4, a5, a6⟩ | ⟨a7, -⟩
            · exact ⟨a1, a2, a3, a4, a5, by rw [a6]; exact HNF.out.symm⟩
            · exact absurd ⟨n0, hn0, a0, by rw [hlf]; exact a7⟩ (of_decide_eq_false HBO.out.symm))
        clear hx7
        go_wp2_with fail
        go_meet
        case rel =>
          obtain ⟨rfl, rfl, rfl, rfl, rfl, hl⟩ := HK.out
          exact ⟨by rw [hl], hb2, HX7.out, HXE3.out⟩
      | true =>
        obtain ⟨n0, hn0, rfl, hlf, hsl⟩ : ∃ (n0 : Nat) (hn : n0 < h.files.length), nf = n0 + 1 ∧ h.files[n0] = ⟨ff, fl, fs, fo, fb⟩ ∧ st.length = n0 := by
          rcases HCASE.out with ⟨a0, -⟩ | ⟨n0, lf, hn0, a0, hlf, hc⟩
          · obtain ⟨n1, h1, h2, -⟩ := of_decide_eq_true HBO.out.symm
            omega
          · rcases hc with ⟨a7, -⟩ | ⟨a7, a1, a2, a3⟩
            · obtain ⟨n1, h1, h2, h3⟩ := of_decide_eq_true HBO.out.symm
              obtain rfl : n0 = n1 := by omega
              rw [hlf] at h3
              exact absurd h3 a7
            · exact ⟨n0, hn0, a0, by rw [hlf, a1], a3⟩
        obtain ⟨ga, rfl, hgz, e0, e1, e2, e3, e4⟩ := HEL.out n0 hn0
        rw [hlf] at e0 e1 e2 e3 e4
        simp only at e0 e1 e2 e3 e4
        have hn1 := HFN.out
        have hwn : IntKind.i64.wrap (n0 : Int) = (n0 : Int) := IntWalk.i64_in _ (by omega)
        have hq1 : (n0 : Int) < (n0 : Int) + 1 := by omega
        have old : ∀ (q j : Nat) (u : Value), q < wr.heap.size → wr.cell? ⟨q, j, none⟩ = some u → W3.cell? ⟨q, j, none⟩ = some u := fun q j u hq hu => (hb2.out.cell (p := ⟨q, j, none⟩) hq).trans hu
        replace e0 := old _ _ _ hgz e0
        replace e1 := old _ _ _ hgz e1
        replace e2 := old _ _ _ hgz e2
        replace e3 := old _ _ _ hgz e3
        replace e4 := old _ _ _ hgz e4
        have r3 := old _ _ _ HC56.out.2.2 HC3.out
        obtain ⟨y0, y1, y2, y3, y4, yf, yz⟩ := five_cells hx7
        have yf0 := yf 0
        have yf1 := yf 1
        have yf2 := yf 2
        have yf3 := yf 3
        have yf4 := yf 4
        have hgz3 : ga < W3.heap.size := Nat.lt_of_lt_of_le hgz hb2.out.size
        have HSL := Lib.hid hsl
        clear old hx7 yf hlf hn0 hsl
        go_wp2_with fail
        go_meet
        case rel =>
          have hg := HG7.out
          have hge : wr.heap.size ≤ g7 := by have := HBE.out.size; omega
          refine ⟨by rw [HSL.out], Lib.hid ?_, ?_, ?_⟩
          · exact ((((hb2.out.setCell hge _).setCell hge _).setCell hge _).setCell hge _).setCell hge _
          · exact heap_five HX7.out
          · rw [heap_ne (by omega), heap_ne (by omega), heap_ne (by omega), heap_ne (by omega), heap_ne (by omega)]
            exact HXE3.out
    case rest =>
      obtain ⟨rfl, HBc, hx7, hxe⟩ := hcut
      obtain ⟨w5, hw5⟩ : ∃ w5 : World, w5 = wc := ⟨_, rfl⟩
      subst hw5
      have HX7 := Lib.hid hx7
      have HXC := Lib.hid hxe
      have HLC := Lib.hid (HL.out.next HBc.out)
      obtain ⟨y0, y1, y2, y3, y4, yf, yz⟩ := five_cells hx7
      clear hx7 hxe
      have hff : 0 ≤ ff ∧ ff < 10000000000 := by
        rcases HCASE.out with ⟨-, a1, -⟩ | ⟨n0, lf, hn0, a0, hlf, hc⟩
        · omega
        · rcases hc with ⟨-, a1, -⟩ | ⟨-, a1, -⟩
          · omega
          · have := (HO.out.fb lf (by rw [← hlf]; exact List.getElem_mem hn0)).1
            rw [a1] at this
            exact this
      have HFFB := Lib.hid hff
      have HNM : Hid ((sgName ff).size ≤ 9223372036854775807) := Lib.hid (by
        have : (sgName ff).size = 14 := by
          unfold sgName
          show (_ : Array UInt8).size = _
          simp [dg_length]
        omega)
      have HLB : Hid (L.length ≤ 1048700) := Lib.hid (by
        have h1 := sgRow_length ⟨xi, xt, xk, xb⟩
        have h2 := sgForm_le ⟨xi, xt, xk, xb⟩
        simp only at h2
        rw [HLE.out]
        have := HN.out
        omega)
      obtain ⟨rr, hrr⟩ : ∃ rr, rr = D.append d (sgName ff) [L] := ⟨_, rfl⟩
      have HRR := Lib.hid hrr
      obtain ⟨K2, hK2⟩ : ∃ K2 : Nat → Obj → Prop, K2 = fun k o => w5.heap[k]? = some o ∧ ¬ X k ∧ ¬ Xd k := ⟨_, rfl⟩
      have HK2 := Lib.hid hK2
      have HLK : Hid (LS K2 w X Xd g gd least h d w5) := Lib.hid (by rw [hK2]; exact HLC.out.keep)
      clear hrr hK2 hff
      go_upto_region 5 with fail
      go_cut [9] from 38 (fun s w' => s = .int .i64 rr.1 ∧ ∃ Xd', LS K2 w X Xd' g gd least h rr.2 w')
      case first =>
        have hS : Only Xd w5 w5.drew := Only.of_below (Below.refl _ _).drew
        have hgd : ¬ Xd g := HLC.out.dis g HLA.out.fg
        have hgz := HLC.out.lt HLA.out.fg
        have h7z : ¬ Xd g7 := fun hx => by have := HL.out.ds.lt g7 hx; have := HG7.out; omega
        have c5 : w5.cell? ⟨g, 5, none⟩ = some (.pointer (some ⟨gd, 0, none⟩)) := (HBc.out.cell (p := ⟨g, 5, none⟩) HC56.out.2.2).trans HC56.out.1
        have r5 : ∀ w', Only Xd w5 w' → w'.cell? ⟨g, 5, none⟩ = some (.pointer (some ⟨gd, 0, none⟩)) := fun w' hw' => (World.cell?_of_block (a := ⟨g, 5, none⟩) (hw'.block g hgz hgd)).trans c5
        have q0 : ∀ w', Only Xd w5 w' → w'.cell? ⟨g7, 0, none⟩ = some (.int .i64 ff) := fun w' hw' => (World.cell?_of_block (a := ⟨g7, 0, none⟩) (hw'.block g7 yz h7z)).trans y0
        have HVC : Hid (∀ w', Below w5.heap.size w5 w' → RepB w' Fb L (.slice ba m bc)) := Lib.hid fun w' hb => HVB.out.same (fun _ h => h) fun j hj => (hb.block j (by have := (HFB.out j hj).1; have := HBc.out.size; omega)).trans (HBc.out.block j (HFB.out j hj).1)
        have HPC : Hid (∀ w', Below w5.heap.size w5 w' → Hid (Pow10 w')) := Lib.hid fun w' hb => Lib.hid ((hP.out.next HBc.out).next hb)
        clear c5 y0 y1 y2 y3 y4 yf
        refine wp_region_held (S := fun w' => Only Xd w5 w') (by kernel_rfl) ?_
        refine H_take (i := 0) (v := ?_) rfl (by as_aux_lemma => kernel_rfl) (by as_aux_lemma => kernel_rfl) (by as_aux_lemma => kernel_rfl) (fun _ _ _ h => h) (by rfl) hS ?_ ?_
        rotate_left
        · intro w' hw'; go_simp; with_reducible rfl
        go_simp
        refine H_take (i := 1) (v := ?_) rfl (by as_aux_lemma => kernel_rfl) (by as_aux_lemma => kernel_rfl) (by as_aux_lemma => kernel_rfl) (fun _ _ _ h => h) (by rfl) hS ?_ ?_
        rotate_left
        · intro w' hw'; go_simp; with_reducible rfl
        go_simp
        refine H_take (i := 2) (v := ?_) rfl (by as_aux_lemma => kernel_rfl) (by as_aux_lemma => kernel_rfl) (by as_aux_lemma => kernel_rfl) (fun _ _ _ h => h) (by rfl) hS ?_ ?_
        rotate_left
        · intro w' hw'; go_simp; with_reducible rfl
        go_simp
        refine H_take (i := 3) (v := ?_) rfl (by as_aux_lemma => kernel_rfl) (by as_aux_lemma => kernel_rfl) (by as_aux_lemma => kernel_rfl) (fun _ _ _ h => h) (by rfl) hS ?_ ?_
        rotate_left
        · intro w' hw'; go_simp; with_reducible rfl
        go_simp
        refine H_take (i := 4) (v := ?_) rfl (by as_aux_lemma => kernel_rfl) (by as_aux_lemma => kernel_rfl) (by as_aux_lemma => kernel_rfl) (fun _ _ _ h => h) (by rfl) hS ?_ ?_
        rotate_left
        · intro w' hw'; go_simp; with_reducible rfl
        go_simp
        refine H_take (i := 5) (v := ?_) rfl (by as_aux_lemma => kernel_rfl) (by as_aux_lemma => kernel_rfl) (by as_aux_lemma => kernel_rfl) (fun _ _ _ h => h) (by rfl) hS ?_ ?_
        rotate_left
        · intro w' hw'; go_simp; with_reducible rfl
        go_simp
        refine H_take (i := 7) (v := ?_) rfl (by as_aux_lemma => kernel_rfl) (by as_aux_lemma => kernel_rfl) (by as_aux_lemma => kernel_rfl) (fun _ _ _ h => h) (by rfl) hS ?_ ?_
        rotate_left
        · intro w' hw'; go_simp; with_reducible rfl
        go_simp
        refine H_both (i := 6) (j := 8) (by as_aux_lemma => kernel_rfl) rfl rfl (by rfl) (by rfl) ?_ ?_
        · go_simp
          refine (nameOf_any ff w5.drew HFFB.out.1 HFFB.out.2 (HPC.out _ (Below.refl _ _).drew)).mono ?_
          rintro e w1 ⟨rfl, hb1⟩
          have hbc1 : Below w5.heap.size w5 w1 := (Below.refl _ _).drew.trans hb1
          have hS1 : Only Xd w5 w1 := Only.of_below hbc1
          refine ⟨hS1, ?_⟩
          refine H_one (i := 8) (by as_aux_lemma => kernel_rfl) rfl (by rfl) ?_
          go_simp
          have hb2 := hbc1.alloc hbc1.size (.cells #[.slice ba m bc] 34)
          have hS2 : Only Xd w5 (w1.alloc (.cells #[.slice ba m bc] 34)) := Only.of_below hb2
          refine ⟨hS2, ?_⟩
          refine H_one (i := 9) (by as_aux_lemma => kernel_rfl) rfl (by rfl) ?_
          go_simp
          have hbc1' := Lib.hid hbc1
          refine ((HLK.out.next hbc1).append1 (sgName ff) HNM.out L _ Fb (HVC.out w1 hbc1) (fun k hk => ⟨by have := (HFB.out k hk).1; have := HBc.out.size; have := hbc1.size; omega, (HFB.out k hk).2.2⟩) (by have := HU.out; have := HLB.out; omega) _ rfl).mono ?_
          rintro e w4 ⟨rfl, ho4, Xd', l4⟩
          rw [← HRR.out] at l4 ⊢
          have hS4 : Only Xd w5 w4 := (Only.of_below hbc1).thn (fun _ h => .inl h) ho4
          have HL4 := Lib.hid l4
          clear ho4 l4
          refine ⟨hS4, ?_⟩
          go_simp
          refine H_take (i := 10) (v := ?_) rfl (by as_aux_lemma => kernel_rfl) (by as_aux_lemma => kernel_rfl) (by as_aux_lemma => kernel_rfl) (fun _ _ _ h => h) (by rfl) hS4 ?_ ?_
          rotate_left
          · intro w' hw'; go_simp; with_reducible rfl
          go_simp
          refine wpAnyH_done (by as_aux_lemma => kernel_rfl) ?_ _
          clear hS hS1 hS2 hS4 r5 q0 hb1 hbc1 hb2
          go_wp2_with fail
          go_meet
          case rel => exact ⟨rfl, Xd', HL4.out⟩
        · go_simp
          have hb2 := below_alloc w5 (.cells #[.slice ba m bc] 34)
          have hb2d : Below w5.heap.size w5 (w5.alloc (.cells #[.slice ba m bc] 34)).drew := hb2.drew
          have hS2 : Only Xd w5 (w5.alloc (.cells #[.slice ba m bc] 34)).drew := Only.of_below hb2d
          refine ⟨hS2, ?_⟩
          refine H_one (i := 6) (by as_aux_lemma => kernel_rfl) rfl (by rfl) ?_
          go_simp
          refine (nameOf_any ff _ HFFB.out.1 HFFB.out.2 (HPC.out _ hb2d)).mono ?_
          rintro e w1 ⟨rfl, hb1⟩
          have hbc1 : Below w5.heap.size w5 w1 := hb2d.trans (hb1.mono (by simp))
          have hS1 : Only Xd w5 w1 := Only.of_below hbc1
          refine ⟨hS1, ?_⟩
          refine H_one (i := 9) (by as_aux_lemma => kernel_rfl) rfl (by rfl) ?_
          go_simp
          refine ((HLK.out.next hbc1).appendV (sgName ff) HNM.out L _ (fun k => Fb k ∨ k = w5.heap.size) ((RepBl.one (HVC.out w5 (Below.refl _ _)) rfl fun k hk => by have := (HFB.out k hk).1; have := HBc.out.size; omega).same (fun _ h => h) fun k hk => hb1.block k (by
            simp only [World.size_drew, World.size_alloc]
            rcases hk with hk | hk
            · have := (HFB.out k hk).1; have := HBc.out.size; omega
            · omega)) (fun k hk => ⟨by
            have hz := hb1.size
            simp only [World.size_drew, World.size_alloc] at hz
            rcases hk with hk | hk
            · have := (HFB.out k hk).1; have := HBc.out.size; omega
            · omega, fun hx => by
            rcases hk with hk | hk
            · exact (HFB.out k hk).2.2 hx
            · have := HLC.out.ds.lt k hx; omega⟩) (by have := HU.out; have := HLB.out; omega)).mono ?_
          rintro e w4 ⟨rfl, ho4, Xd', l4⟩
          rw [← HRR.out] at l4 ⊢
          have hS4 : Only Xd w5 w4 := (Only.of_below hbc1).thn (fun _ h => .inl h) ho4
          have HL4 := Lib.hid l4
          clear ho4 l4
          refine ⟨hS4, ?_⟩
          go_simp
          refine H_take (i := 10) (v := ?_) rfl (by as_aux_lemma => kernel_rfl) (by as_aux_lemma => kernel_rfl) (by as_aux_lemma => kernel_rfl) (fun _ _ _ h => h) (by rfl) hS4 ?_ ?_
          rotate_left
          · intro w' hw'; go_simp; with_reducible rfl
          go_simp
          refine wpAnyH_done (by as_aux_lemma => kernel_rfl) ?_ _
          clear hS hS1 hS2 hS4 r5 q0 hb1 hbc1 hb2 hb2d
          go_wp2_with fail
          go_meet
          case rel => exact ⟨rfl, Xd', HL4.out⟩
      case rest =>
        obtain ⟨rfl, Xd', l4⟩ := hcut
        have HL4 := Lib.hid l4
        have h7ne : ¬ X g7 ∧ ¬ Xd g7 ∧ ¬ X ge ∧ ¬ Xd ge := ⟨fun hx => by have := HL.out.lt hx; have := HG7.out; omega, fun hx => by have := HL.out.ds.lt g7 hx; have := HG7.out; omega, fun hx => by have := HL.out.lt hx; have := HG7.out; omega, fun hx => by have := HL.out.ds.lt ge hx; have := HG7.out; omega⟩
        have HX74 : Hid (wc.heap[g7]? = some (.cells #[.int .i64 ff, .int .i64 fl, .int .i64 fs, .int .i64 fo, .bool fb] 75)) := Lib.hid (l4.kp g7 _ (by rw [HK2.out]; exact ⟨HX7.out, h7ne.1, h7ne.2.1⟩)).1
        have HXE4 : Hid (wc.heap[ge]? = some (.cells #[.int .i64 xi, .int .i64 xt, .int .i64 xk, .slice ea n ec] 36)) := Lib.hid (l4.kp ge _ (by rw [HK2.out]; exact ⟨HXC.out, h7ne.2.2.1, h7ne.2.2.2⟩)).1
        have HVE4 : Hid (RepB wc Fe xb (.slice ea n ec)) := Lib.hid (HVE.out.same (fun _ h => h) fun j hj => by
          obtain ⟨j1, j2, j3⟩ := HFE.out j hj
          have e1 := HBc.out.block j j1
          have e2 : wr.heap[j]? = some wr.heap[j] := Array.getElem?_eq_getElem j1
          exact (l4.kp j _ (by rw [HK2.out]; exact ⟨e1.trans e2, j2, j3⟩)).1.trans e2.symm)
        have HLE2 : Hid (layE least h d ⟨xi, xt, xk, xb⟩ = (if rr.1 ≠ 0 then (rr.1, h, rr.2) else (0, { h with rows := h.rows ++ [⟨⟨xi, xt, xk, xb⟩, fs⟩], files := st ++ [⟨ff, xi, fs + (m : Int), fo, true⟩] }, rr.2))) := Lib.hid (by
          rw [layE_eq, ← HFT.out]
          simp only
          rw [← HLE.out, ← HRR.out, ← HM.out])
        obtain ⟨rc1, rd1⟩ := rr
        simp only at HL4 HLE2 ⊢
        clear l4 h7ne y0 y1 y2 y3 y4 yf yz
        obtain ⟨w6, hw6⟩ : ∃ w6 : World, w6 = wc := ⟨_, rfl⟩
        subst hw6
        by_cases hr0 : rc1 = 0
        · subst hr0
          have HLE3 : Hid (layE least h d ⟨xi, xt, xk, xb⟩ = (0, { h with rows := h.rows ++ [⟨⟨xi, xt, xk, xb⟩, fs⟩], files := st ++ [⟨ff, xi, fs + (m : Int), fo, true⟩] }, rd1)) := Lib.hid (by rw [HLE2.out, if_neg (by simp)])
          clear HLE2
          obtain ⟨⟨vr6, vf6, rv6, la6⟩, lz6⟩ := HL4.out.lg
          obtain ⟨ra6, rc6, hvr6, hrl6, hrm6⟩ := row5_slice la6.rrow
          subst hvr6
          have hrn6 : rv6.length ≤ 1000000 := by
            have h1 := HO.out.rl
            rw [← la6.rows, List.length_map] at h1
            exact h1
          have HLA6 := Lib.hid la6
          obtain ⟨y0, y1, y2, y3, y4, yf, yz⟩ := five_cells HX74.out
          obtain ⟨x0, x1, x2, x3, xz⟩ := four_cells HXE4.out
          obtain ⟨c0, c1, c2, c3, c4, c5, c6, cz⟩ := seven_cells la6.box
          have hG6 : ¬ X ge ∧ ¬ X g7 := ⟨fun hx => by have := HL.out.lt hx; have := HG7.out; omega, fun hx => by have := HL.out.lt hx; have := HG7.out; omega⟩
          obtain ⟨k6, hk6⟩ : ∃ k6, k6 = rv6.length := ⟨_, rfl⟩
          have HK6 := Lib.hid hk6
          rw [← hk6] at c2 hrn6 hrl6
          go_upto_region 8 with fail
          go_cut [] from 61 (fun w' => ∃ X', LS K2 w X' Xd' g gd least { h with rows := h.rows ++ [⟨⟨xi, xt, xk, xb⟩, fs⟩] } rd1 w')
          case first =>
            have hS : Only X w6 w6.drew := Only.of_below (Below.refl _ _).drew
            have r0 : ∀ w', Only X w6 w' → w'.cell? ⟨ge, 0, none⟩ = some (.int .i64 xi) := fun w' hw' => (World.cell?_of_block (a := ⟨ge, 0, none⟩) (hw'.block ge xz hG6.1)).trans x0
            have r1 : ∀ w', Only X w6 w' → w'.cell? ⟨ge, 1, none⟩ = some (.int .i64 xt) := fun w' hw' => (World.cell?_of_block (a := ⟨ge, 1, none⟩) (hw'.block ge xz hG6.1)).trans x1
            have r2 : ∀ w', Only X w6 w' → w'.cell? ⟨ge, 2, none⟩ = some (.int .i64 xk) := fun w' hw' => (World.cell?_of_block (a := ⟨ge, 2, none⟩) (hw'.block ge xz hG6.1)).trans x2
            have r3 : ∀ w', Only X w6 w' → w'.cell? ⟨ge, 3, none⟩ = some (.slice ea n ec) := fun w' hw' => (World.cell?_of_block (a := ⟨ge, 3, none⟩) (hw'.block ge xz hG6.1)).trans x3
            have q2 : ∀ w', Only X w6 w' → w'.cell? ⟨g7, 2, none⟩ = some (.int .i64 fs) := fun w' hw' => (World.cell?_of_block (a := ⟨g7, 2, none⟩) (hw'.block g7 yz hG6.2)).trans y2
            have HC2 := Lib.hid c2
            have HCZ := Lib.hid cz
            have HVEX : Hid (∀ w', Below w6.heap.size w6 w' → RepB w' Fe xb (.slice ea n ec) ∧ ∀ k, Fe k → k < w'.heap.size) := Lib.hid fun w' hb => by
              have hz : ∀ j, Fe j → j < w6.heap.size := fun j hj => by
                have h1 := (HFE.out j hj).1
                have h2 := HBc.out.size
                have h3 := HL4.out.below.size
                obtain ⟨j1, j2, j3⟩ := HFE.out j hj
                have e1 := HBc.out.block j j1
                have e2 : wr.heap[j]? = some wr.heap[j] := Array.getElem?_eq_getElem j1
                exact lt_of_heap (HL4.out.kp j _ (by rw [HK2.out]; exact ⟨e1.trans e2, j2, j3⟩)).1
              exact ⟨HVE4.out.same (fun _ h => h) fun j hj => hb.block j (hz j hj), fun j hj => Nat.lt_of_lt_of_le (hz j hj) hb.size⟩
            clear x0 x1 x2 x3 xz y0 y1 y2 y3 y4 yf yz c0 c1 c3 c4 c5 c6 c2 hG6 la6 lz6 hrl6 hrm6 hk6
            refine wp_region_held (S := fun w' => Only X w6 w') (by kernel_rfl) ?_
            refine H_take (i := 0) (v := ?_) rfl (by as_aux_lemma => kernel_rfl) (by as_aux_lemma => kernel_rfl) (by as_aux_lemma => kernel_rfl) (fun _ _ _ h => h) (by rfl) hS ?_ ?_
            rotate_left
            · intro w' hw'; go_simp; with_reducible rfl
            go_simp
            refine H_take (i := 1) (v := ?_) rfl (by as_aux_lemma => kernel_rfl) (by as_aux_lemma => kernel_rfl) (by as_aux_lemma => kernel_rfl) (fun _ _ _ h => h) (by rfl) hS ?_ ?_
            rotate_left
            · intro w' hw'; go_simp; with_reducible rfl
            go_simp
            refine H_take (i := 2) (v := ?_) rfl (by as_aux_lemma => kernel_rfl) (by as_aux_lemma => kernel_rfl) (by as_aux_lemma => kernel_rfl) (fun _ _ _ h => h) (by rfl) hS ?_ ?_
            rotate_left
            · intro w' hw'; go_simp; with_reducible rfl
            go_simp
            refine H_take (i := 3) (v := ?_) rfl (by as_aux_lemma => kernel_rfl) (by as_aux_lemma => kernel_rfl) (by as_aux_lemma => kernel_rfl) (fun _ _ _ h => h) (by rfl) hS ?_ ?_
            rotate_left
            · intro w' hw'; go_simp; with_reducible rfl
            go_simp
            refine H_take (i := 4) (v := ?_) rfl (by as_aux_lemma => kernel_rfl) (by as_aux_lemma => kernel_rfl) (by as_aux_lemma => kernel_rfl) (fun _ _ _ h => h) (by rfl) hS ?_ ?_
            rotate_left
            · intro w' hw'; go_simp; with_reducible rfl
            go_simp
            refine H_take (i := 6) (v := ?_) rfl (by as_aux_lemma => kernel_rfl) (by as_aux_lemma => kernel_rfl) (by as_aux_lemma => kernel_rfl) (fun _ _ _ h => h) (by rfl) hS ?_ ?_
            rotate_left
            · intro w' hw'; go_simp; with_reducible rfl
            go_simp
            refine H_take (i := 8) (v := ?_) rfl (by as_aux_lemma => kernel_rfl) (by as_aux_lemma => kernel_rfl) (by as_aux_lemma => kernel_rfl) (fun _ _ _ h => h) (by rfl) hS ?_ ?_
            rotate_left
            · intro w' hw'; go_simp; with_reducible rfl
            go_simp
            refine H_take (i := 9) (v := ?_) rfl (by as_aux_lemma => kernel_rfl) (by as_aux_lemma => kernel_rfl) (by as_aux_lemma => kernel_rfl) (fun _ _ _ h => h) (by rfl) hS ?_ ?_
            rotate_left
            · intro w' hw'; go_simp; with_reducible rfl
            go_simp
            refine H_both (i := 5) (j := 7) (by as_aux_lemma => kernel_rfl) rfl rfl (by rfl) (by rfl) ?_ ?_
            · have c2 := HC2.out
              go_simp
              clear c2
              refine H_one (i := 7) (by as_aux_lemma => kernel_rfl) rfl (by rfl) ?_
              go_simp
              refine (copied_any ⟨xi, xt, xk, xb⟩ _ Fe _ (HVEX.out _ (Below.refl w6.heap.size w6).drew).1 (HVEX.out _ (Below.refl w6.heap.size w6).drew).2 (by have := HN.out; show xb.length ≤ _; omega)).mono ?_
              rintro e w7 ⟨u7, rfl, ho7⟩
              obtain ⟨ua, uc, rfl⟩ := ho7.slice
              unfold enAgg
              simp only
              have ho7' := ho7.base (Below.refl w6.heap.size w6).drew
              have hS7 : Only X w6 w7 := Only.of_below ho7'.1
              obtain ⟨nb, hnb⟩ : ∃ nb, nb = xb.length := ⟨_, rfl⟩
              have HO7 : Hid (Own w6 xb (.slice ua nb uc) w7) := Lib.hid (by rw [hnb]; exact ho7')
              rw [← hnb]
              have HNB := Lib.hid hnb
              clear ho7 ho7' hnb
              refine ⟨hS7, ?_⟩
              refine H_take (i := 10) (v := ?_) rfl (by as_aux_lemma => kernel_rfl) (by as_aux_lemma => kernel_rfl) (by as_aux_lemma => kernel_rfl) (fun _ _ _ h => h) (by rfl) hS7 ?_ ?_
              rotate_left
              · intro w' hw'; go_simp; with_reducible rfl
              go_simp
              refine H_one (i := 11) (by as_aux_lemma => kernel_rfl) rfl (by rfl) ?_
              go_simp
              have hS8 : Only X w6 (w7.alloc (.cells #[.int .i64 xi, .int .i64 xt, .int .i64 xk, .slice ua nb uc, .int .i64 fs] 77)) := Only.of_below (HO7.out.1.alloc HO7.out.1.size _)
              refine ⟨hS8, ?_⟩
              refine H_one (i := 12) (by as_aux_lemma => kernel_rfl) rfl (by rfl) ?_
              obtain ⟨ib, hib, hib0, hib1, hib2⟩ := info_parts infoSgRow
              have hrow8 : (w7.alloc (.cells #[.int .i64 xi, .int .i64 xt, .int .i64 xk, .slice ua nb uc, .int .i64 fs] 77)).ownsRow 0 77 5 (.slice ra6 k6 rc6) k6 (rwCells rv6) := by
                have h1 := HLA6.out.rrow
                rw [← HK6.out] at h1
                exact ownsRow_same h1 fun k hk => by
                  have hkz := (h1.lt k hk).2
                  rw [Below.heap_alloc _ _ _ (by have := HO7.out.1.size; omega)]
                  exact HO7.out.1.block k hkz
              refine wp_append_any _ _ _ 57 rfl 0 77 ib _ 5 56 Tryz.underlying57 hib hib0 hib1 hib2 rfl (by decide) (.slice ra6 k6 rc6) k6 (rwCells rv6) rfl hrow8 (.slice (some ⟨w7.heap.size, 0, none⟩) 1 1) rfl 1 [.int .i64 xi, .int .i64 xt, .int .i64 xk, .slice ua nb uc, .int .i64 fs] (yields_five rfl) (by unfold maxLen; omega) (by omega) (Nat.zero_le _) ?_
              intro v9 w9 happ
              obtain ⟨la9, lc9, rfl⟩ := owned_slice happ.1
              have HAPP : Hid (∃ X', LS K2 w X' Xd' g gd least { h with rows := h.rows ++ [⟨⟨xi, xt, xk, xb⟩, fs⟩] } rd1 (w9.setCell ⟨g, 2, none⟩ (.slice la9 (k6 + 1) lc9))) := Lib.hid (HL4.out.pushRow HLA6.out (e := ⟨xi, xt, xk, xb⟩) HO7.out (by rw [← HK6.out]; exact happ))
              have hgz9 : Only X w6 w9 := by
                have hg9 := happ.2.1
                have z9 := hg9.size
                have z7 := HO7.out.1.size
                simp only [World.size_alloc] at z9
                refine ⟨hg9.os.trans HO7.out.1.os, hg9.tape.trans HO7.out.1.tape, hg9.output.trans HO7.out.1.output, by omega, fun k hk hn => ?_⟩
                rw [hg9.block k (by simp; omega) (fun e => hn ((HLA6.out.fr k (by rw [← HK6.out]; exact e.symm)).1)), Below.heap_alloc _ _ _ (by omega)]
                exact HO7.out.1.block k hk
              have hbox9 : w9.heap[g]? = _ := ((happ.2.1.block g (by have := HO7.out.1.size; have := HCZ.out; simp; omega) (fun e => (HLA6.out.fr g (by rw [← HK6.out]; exact e.symm)).2.1 rfl)).trans ((Below.heap_alloc _ _ _ (by have := HO7.out.1.size; have := HCZ.out; omega)).trans (HO7.out.1.block g HCZ.out))).trans HLA6.out.box
              have hc9 := (seven_cells hbox9).2.2.1
              have hf9 : w9.frozen? ⟨g, 2, none⟩ = false := frozen_of_row _ _ 2 _ _ hbox9
              clear hbox9
              have hz9 : g < w9.heap.size := Nat.lt_of_lt_of_le HCZ.out hgz9.size
              have HOX : Hid (Only X w6 (w9.setCell ⟨g, 2, none⟩ (.slice la9 (k6 + 1) lc9))) := Lib.hid (hgz9.set (.inl HLA6.out.fg) _)
              clear happ hrow8
              refine ⟨hgz9, ?_⟩
              refine H_take (i := 13) (v := ?_) rfl (by as_aux_lemma => kernel_rfl) (by as_aux_lemma => kernel_rfl) (by as_aux_lemma => kernel_rfl) (fun _ _ _ h => h) (by rfl) hgz9 ?_ ?_
              rotate_left
              · intro w' hw'; go_simp; with_reducible rfl
              go_simp
              refine H_take (i := 14) (v := ?_) rfl (by as_aux_lemma => kernel_rfl) (by as_aux_lemma => kernel_rfl) (by as_aux_lemma => kernel_rfl) (fun _ _ _ h => h) (by rfl) hgz9 ?_ ?_
              rotate_left
              · intro w' hw'; go_simp; with_reducible rfl
              go_simp
              refine H_take (i := 15) (v := ?_) rfl (by as_aux_lemma => kernel_rfl) (by as_aux_lemma => kernel_rfl) (by as_aux_lemma => kernel_rfl) (fun _ _ _ h => h) (by rfl) hgz9 ?_ ?_
              rotate_left
              · intro w' hw'; go_simp; with_reducible rfl
              go_simp
              refine H_one (i := 16) (by as_aux_lemma => kernel_rfl) rfl (by rfl) ?_
              go_simp
              refine ⟨HOX.out, ?_⟩
              refine wpAnyH_done (by as_aux_lemma => kernel_rfl) ?_ _
              clear r0 r1 r2 r3 q2 hS hS7 hS8 hgz9 hc9 hf9 hz9
              go_wp2_with fail
              go_meet
              case rel => exact HAPP.out
            · go_simp
              refine (copied_any ⟨xi, xt, xk, xb⟩ _ Fe _ (HVEX.out _ (Below.refl w6.heap.size w6).drew).1 (HVEX.out _ (Below.refl w6.heap.size w6).drew).2 (by have := HN.out; show xb.length ≤ _; omega)).mono ?_
              rintro e w7 ⟨u7, rfl, ho7⟩
              obtain ⟨ua, uc, rfl⟩ := ho7.slice
              unfold enAgg
              simp only
              have ho7' := ho7.base (Below.refl w6.heap.size w6).drew
              have hS7 : Only X w6 w7 := Only.of_below ho7'.1
              obtain ⟨nb, hnb⟩ : ∃ nb, nb = xb.length := ⟨_, rfl⟩
              have HO7 : Hid (Own w6 xb (.slice ua nb uc) w7) := Lib.hid (by rw [hnb]; exact ho7')
              rw [← hnb]
              have HNB := Lib.hid hnb
              clear ho7 ho7' hnb
              refine ⟨hS7, ?_⟩
              refine H_take (i := 10) (v := ?_) rfl (by as_aux_lemma => kernel_rfl) (by as_aux_lemma => kernel_rfl) (by as_aux_lemma => kernel_rfl) (fun _ _ _ h => h) (by rfl) hS7 ?_ ?_
              rotate_left
              · intro w' hw'; go_simp; with_reducible rfl
              go_simp
              refine H_both (i := 5) (j := 11) (by as_aux_lemma => kernel_rfl) rfl rfl (by rfl) (by rfl) ?_ ?_
              · have c2 : w7.cell? ⟨g, 2, none⟩ = some (.slice ra6 k6 rc6) := (HO7.out.1.cell (p := ⟨g, 2, none⟩) HCZ.out).trans HC2.out
                go_simp
                clear c2
                refine H_one (i := 11) (by as_aux_lemma => kernel_rfl) rfl (by rfl) ?_
                go_simp
                have hS8 : Only X w6 (w7.alloc (.cells #[.int .i64 xi, .int .i64 xt, .int .i64 xk, .slice ua nb uc, .int .i64 fs] 77)) := Only.of_below (HO7.out.1.alloc HO7.out.1.size _)
                refine ⟨hS8, ?_⟩
                refine H_one (i := 12) (by as_aux_lemma => kernel_rfl) rfl (by rfl) ?_
                obtain ⟨ib, hib, hib0, hib1, hib2⟩ := info_parts infoSgRow
                have hrow8 : (w7.alloc (.cells #[.int .i64 xi, .int .i64 xt, .int .i64 xk, .slice ua nb uc, .int .i64 fs] 77)).ownsRow 0 77 5 (.slice ra6 k6 rc6) k6 (rwCells rv6) := by
                  have h1 := HLA6.out.rrow
                  rw [← HK6.out] at h1
                  exact ownsRow_same h1 fun k hk => by
                    have hkz := (h1.lt k hk).2
                    rw [Below.heap_alloc _ _ _ (by have := HO7.out.1.size; omega)]
                    exact HO7.out.1.block k hkz
                refine wp_append_any _ _ _ 57 rfl 0 77 ib _ 5 56 Tryz.underlying57 hib hib0 hib1 hib2 rfl (by decide) (.slice ra6 k6 rc6) k6 (rwCells rv6) rfl hrow8 (.slice (some ⟨w7.heap.size, 0, none⟩) 1 1) rfl 1 [.int .i64 xi, .int .i64 xt, .int .i64 xk, .slice ua nb uc, .int .i64 fs] (yields_five rfl) (by unfold maxLen; omega) (by omega) (Nat.zero_le _) ?_
                intro v9 w9 happ
                obtain ⟨la9, lc9, rfl⟩ := owned_slice happ.1
                have HAPP : Hid (∃ X', LS K2 w X' Xd' g gd least { h with rows := h.rows ++ [⟨⟨xi, xt, xk, xb⟩, fs⟩] } rd1 (w9.setCell ⟨g, 2, none⟩ (.slice la9 (k6 + 1) lc9))) := Lib.hid (HL4.out.pushRow HLA6.out (e := ⟨xi, xt, xk, xb⟩) HO7.out (by rw [← HK6.out]; exact happ))
                have hgz9 : Only X w6 w9 := by
                  have hg9 := happ.2.1
                  have z9 := hg9.size
                  have z7 := HO7.out.1.size
                  simp only [World.size_alloc] at z9
                  refine ⟨hg9.os.trans HO7.out.1.os, hg9.tape.trans HO7.out.1.tape, hg9.output.trans HO7.out.1.output, by omega, fun k hk hn => ?_⟩
                  rw [hg9.block k (by simp; omega) (fun e => hn ((HLA6.out.fr k (by rw [← HK6.out]; exact e.symm)).1)), Below.heap_alloc _ _ _ (by omega)]
                  exact HO7.out.1.block k hk
                have hbox9 : w9.heap[g]? = _ := ((happ.2.1.block g (by have := HO7.out.1.size; have := HCZ.out; simp; omega) (fun e => (HLA6.out.fr g (by rw [← HK6.out]; exact e.symm)).2.1 rfl)).trans ((Below.heap_alloc _ _ _ (by have := HO7.out.1.size; have := HCZ.out; omega)).trans (HO7.out.1.block g HCZ.out))).trans HLA6.out.box
                have hc9 := (seven_cells hbox9).2.2.1
                have hf9 : w9.frozen? ⟨g, 2, none⟩ = false := frozen_of_row _ _ 2 _ _ hbox9
                clear hbox9
                have hz9 : g < w9.heap.size := Nat.lt_of_lt_of_le HCZ.out hgz9.size
                have HOX : Hid (Only X w6 (w9.setCell ⟨g, 2, none⟩ (.slice la9 (k6 + 1) lc9))) := Lib.hid (hgz9.set (.inl HLA6.out.fg) _)
                clear happ hrow8
                refine ⟨hgz9, ?_⟩
                refine H_take (i := 13) (v := ?_) rfl (by as_aux_lemma => kernel_rfl) (by as_aux_lemma => kernel_rfl) (by as_aux_lemma => kernel_rfl) (fun _ _ _ h => h) (by rfl) hgz9 ?_ ?_
                rotate_left
                · intro w' hw'; go_simp; with_reducible rfl
                go_simp
                refine H_take (i := 14) (v := ?_) rfl (by as_aux_lemma => kernel_rfl) (by as_aux_lemma => kernel_rfl) (by as_aux_lemma => kernel_rfl) (fun _ _ _ h => h) (by rfl) hgz9 ?_ ?_
                rotate_left
                · intro w' hw'; go_simp; with_reducible rfl
                go_simp
                refine H_take (i := 15) (v := ?_) rfl (by as_aux_lemma => kernel_rfl) (by as_aux_lemma => kernel_rfl) (by as_aux_lemma => kernel_rfl) (fun _ _ _ h => h) (by rfl) hgz9 ?_ ?_
                rotate_left
                · intro w' hw'; go_simp; with_reducible rfl
                go_simp
                refine H_one (i := 16) (by as_aux_lemma => kernel_rfl) rfl (by rfl) ?_
                go_simp
                refine ⟨HOX.out, ?_⟩
                refine wpAnyH_done (by as_aux_lemma => kernel_rfl) ?_ _
                clear r0 r1 r2 r3 q2 hS hS7 hS8 hgz9 hc9 hf9 hz9
                go_wp2_with fail
                go_meet
                case rel => exact HAPP.out
              · go_simp
                have hS8 : Only X w6 (w7.alloc (.cells #[.int .i64 xi, .int .i64 xt, .int .i64 xk, .slice ua nb uc, .int .i64 fs] 77)) := Only.of_below (HO7.out.1.alloc HO7.out.1.size _)
                refine ⟨hS8, ?_⟩
                have c2 : (w7.alloc (.cells #[.int .i64 xi, .int .i64 xt, .int .i64 xk, .slice ua nb uc, .int .i64 fs] 77)).cell? ⟨g, 2, none⟩ = some (.slice ra6 k6 rc6) := ((HO7.out.1.alloc HO7.out.1.size _).cell (p := ⟨g, 2, none⟩) HCZ.out).trans HC2.out
                refine H_one (i := 5) (by as_aux_lemma => kernel_rfl) rfl (by rfl) ?_
                go_simp
                clear c2
                refine H_one (i := 12) (by as_aux_lemma => kernel_rfl) rfl (by rfl) ?_
                obtain ⟨ib, hib, hib0, hib1, hib2⟩ := info_parts infoSgRow
                have hrow8 : (w7.alloc (.cells #[.int .i64 xi, .int .i64 xt, .int .i64 xk, .slice ua nb uc, .int .i64 fs] 77)).ownsRow 0 77 5 (.slice ra6 k6 rc6) k6 (rwCells rv6) := by
                  have h1 := HLA6.out.rrow
                  rw [← HK6.out] at h1
                  exact ownsRow_same h1 fun k hk => by
                    have hkz := (h1.lt k hk).2
                    rw [Below.heap_alloc _ _ _ (by have := HO7.out.1.size; omega)]
                    exact HO7.out.1.block k hkz
                refine wp_append_any _ _ _ 57 rfl 0 77 ib _ 5 56 Tryz.underlying57 hib hib0 hib1 hib2 rfl (by decide) (.slice ra6 k6 rc6) k6 (rwCells rv6) rfl hrow8 (.slice (some ⟨w7.heap.size, 0, none⟩) 1 1) rfl 1 [.int .i64 xi, .int .i64 xt, .int .i64 xk, .slice ua nb uc, .int .i64 fs] (yields_five rfl) (by unfold maxLen; omega) (by omega) (Nat.zero_le _) ?_
                intro v9 w9 happ
                obtain ⟨la9, lc9, rfl⟩ := owned_slice happ.1
                have HAPP : Hid (∃ X', LS K2 w X' Xd' g gd least { h with rows := h.rows ++ [⟨⟨xi, xt, xk, xb⟩, fs⟩] } rd1 (w9.setCell ⟨g, 2, none⟩ (.slice la9 (k6 + 1) lc9))) := Lib.hid (HL4.out.pushRow HLA6.out (e := ⟨xi, xt, xk, xb⟩) HO7.out (by rw [← HK6.out]; exact happ))
                have hgz9 : Only X w6 w9 := by
                  have hg9 := happ.2.1
                  have z9 := hg9.size
                  have z7 := HO7.out.1.size
                  simp only [World.size_alloc] at z9
                  refine ⟨hg9.os.trans HO7.out.1.os, hg9.tape.trans HO7.out.1.tape, hg9.output.trans HO7.out.1.output, by omega, fun k hk hn => ?_⟩
                  rw [hg9.block k (by simp; omega) (fun e => hn ((HLA6.out.fr k (by rw [← HK6.out]; exact e.symm)).1)), Below.heap_alloc _ _ _ (by omega)]
                  exact HO7.out.1.block k hk
                have hbox9 : w9.heap[g]? = _ := ((happ.2.1.block g (by have := HO7.out.1.size; have := HCZ.out; simp; omega) (fun e => (HLA6.out.fr g (by rw [← HK6.out]; exact e.symm)).2.1 rfl)).trans ((Below.heap_alloc _ _ _ (by have := HO7.out.1.size; have := HCZ.out; omega)).trans (HO7.out.1.block g HCZ.out))).trans HLA6.out.box
                have hc9 := (seven_cells hbox9).2.2.1
                have hf9 : w9.frozen? ⟨g, 2, none⟩ = false := frozen_of_row _ _ 2 _ _ hbox9
                clear hbox9
                have hz9 : g < w9.heap.size := Nat.lt_of_lt_of_le HCZ.out hgz9.size
                have HOX : Hid (Only X w6 (w9.setCell ⟨g, 2, none⟩ (.slice la9 (k6 + 1) lc9))) := Lib.hid (hgz9.set (.inl HLA6.out.fg) _)
                clear happ hrow8
                refine ⟨hgz9, ?_⟩
                refine H_take (i := 13) (v := ?_) rfl (by as_aux_lemma => kernel_rfl) (by as_aux_lemma => kernel_rfl) (by as_aux_lemma => kernel_rfl) (fun _ _ _ h => h) (by rfl) hgz9 ?_ ?_
                rotate_left
                · intro w' hw'; go_simp; with_reducible rfl
                go_simp
                refine H_take (i := 14) (v := ?_) rfl (by as_aux_lemma => kernel_rfl) (by as_aux_lemma => kernel_rfl) (by as_aux_lemma => kernel_rfl) (fun _ _ _ h => h) (by rfl) hgz9 ?_ ?_
                rotate_left
                · intro w' hw'; go_simp; with_reducible rfl
                go_simp
                refine H_take (i := 15) (v := ?_) rfl (by as_aux_lemma => kernel_rfl) (by as_aux_lemma => kernel_rfl) (by as_aux_lemma => kernel_rfl) (fun _ _ _ h => h) (by rfl) hgz9 ?_ ?_
                rotate_left
                · intro w' hw'; go_simp; with_reducible rfl
                go_simp
                refine H_one (i := 16) (by as_aux_lemma => kernel_rfl) rfl (by rfl) ?_
                go_simp
                refine ⟨HOX.out, ?_⟩
                refine wpAnyH_done (by as_aux_lemma => kernel_rfl) ?_ _
                clear r0 r1 r2 r3 q2 hS hS7 hS8 hgz9 hc9 hf9 hz9
                go_wp2_with fail
                go_meet
                case rel => exact HAPP.out
          case rest =>
            obtain ⟨X8, l8⟩ := hcut
            have HX78 : Hid (wc.heap[g7]? = some (.cells #[.int .i64 ff, .int .i64 fl, .int .i64 fs, .int .i64 fo, .bool fb] 75) ∧ ¬ X8 g7 ∧ ¬ Xd' g7) := Lib.hid (l8.kp g7 _ (by rw [HK2.out]; exact ⟨HX7.out, hG6.2, fun hx => by have := HL.out.ds.lt g7 hx; have := HG7.out; omega⟩))
            have HXE8 : Hid (wc.heap[ge]? = some (.cells #[.int .i64 xi, .int .i64 xt, .int .i64 xk, .slice ea n ec] 36)) := Lib.hid (l8.kp ge _ (by rw [HK2.out]; exact ⟨HXC.out, hG6.1, fun hx => by have := HL.out.ds.lt ge hx; have := HG7.out; omega⟩)).1
            have HL8 : Hid (LS K w X8 Xd' g gd least { h with rows := h.rows ++ [⟨⟨xi, xt, xk, xb⟩, fs⟩] } rd1 wc) := Lib.hid (HLC.out.stay (by have := l8; rw [HK2.out] at this; exact this))
            have HFS : Hid (0 ≤ fs ∧ fs ≤ 1099511627776) := Lib.hid (by
              rcases HCASE.out with ⟨-, -, -, a1, -⟩ | ⟨n0, lf, hn0, a0, hlf, hc⟩
              · omega
              · rcases hc with ⟨-, -, -, a1, -⟩ | ⟨-, a1, -⟩
                · omega
                · have := (HO.out.fb lf (by rw [← hlf]; exact List.getElem_mem hn0)).2
                  rw [a1] at this
                  exact this)
            have HST : Hid (st = h.files.take st.length ∧ st.length ≤ h.files.length) := Lib.hid (by
              rcases HCASE.out with ⟨-, -, -, -, -, -, a1⟩ | ⟨n0, lf, hn0, a0, hlf, hc⟩
              · rw [a1]; simp
              · rcases hc with ⟨-, -, -, -, -, -, a1⟩ | ⟨-, -, a1, a2⟩
                · rw [a1]; simp
                · exact ⟨by rw [a2]; exact a1, by omega⟩)
            obtain ⟨y0, y1, y2, y3, y4, yf, yz⟩ := five_cells HX78.out.1
            obtain ⟨x0, x1, x2, x3, xz⟩ := four_cells HXE8.out
            obtain ⟨w8, hw8⟩ : ∃ w8 : World, w8 = wc := ⟨_, rfl⟩
            subst hw8
            have hne : ge ≠ g7 := by have := HG7.out; omega
            have hwm : IntKind.i64.wrap (fs + (m : Int)) = fs + (m : Int) := IntWalk.i64_in _ (by have := HFS.out; have := HLB.out; have := HM.out; omega)
            clear l8 hG6 c0 c1 c2 c3 c4 c5 c6 cz la6 lz6 hrl6 hrm6 hk6
            go_upto_region 9 with fail
            go_cut [] from 77 (fun w' => LS K w X8 Xd' g gd least { h with rows := h.rows ++ [⟨⟨xi, xt, xk, xb⟩, fs⟩] } rd1 w' ∧ w'.heap[g7]? = some (.cells #[.int .i64 ff, .int .i64 xi, .int .i64 (fs + (m : Int)), .int .i64 fo, .bool true] 75))
            case first =>
              have hS : Only (fun k => k = g7) w8 w8.drew := Only.of_below (Below.refl _ _).drew
              have r0 : ∀ w', Only (fun k => k = g7) w8 w' → w'.cell? ⟨ge, 0, none⟩ = some (.int .i64 xi) := fun w' hw' => (World.cell?_of_block (a := ⟨ge, 0, none⟩) (hw'.block ge xz hne)).trans x0
              have yf1 := yf 1
              have yf2 := yf 2
              have yf4 := yf 4
              clear x0 x1 x2 x3 xz y0 y3 yf
              refine wp_region_held (S := fun w' => Only (fun k => k = g7) w8 w') (by kernel_rfl) ?_
              refine H_take (i := 0) (v := ?_) rfl (by as_aux_lemma => kernel_rfl) (by as_aux_lemma => kernel_rfl) (by as_aux_lemma => kernel_rfl) (fun _ _ _ h => h) (by rfl) hS ?_ ?_
              rotate_left
              · intro w' hw'; go_simp; with_reducible rfl
              go_simp
              refine H_take (i := 2) (v := ?_) rfl (by as_aux_lemma => kernel_rfl) (by as_aux_lemma => kernel_rfl) (by as_aux_lemma => kernel_rfl) (fun _ _ _ h => h) (by rfl) hS ?_ ?_
              rotate_left
              · intro w' hw'; go_simp; with_reducible rfl
              go_simp
              refine H_take (i := 3) (v := ?_) rfl (by as_aux_lemma => kernel_rfl) (by as_aux_lemma => kernel_rfl) (by as_aux_lemma => kernel_rfl) (fun _ _ _ h => h) (by rfl) hS ?_ ?_
              rotate_left
              · intro w' hw'; go_simp; with_reducible rfl
              go_simp
              refine H_take (i := 5) (v := ?_) rfl (by as_aux_lemma => kernel_rfl) (by as_aux_lemma => kernel_rfl) (by as_aux_lemma => kernel_rfl) (fun _ _ _ h => h) (by rfl) hS ?_ ?_
              rotate_left
              · intro w' hw'; go_simp; with_reducible rfl
              go_simp
              refine H_take (i := 6) (v := ?_) rfl (by as_aux_lemma => kernel_rfl) (by as_aux_lemma => kernel_rfl) (by as_aux_lemma => kernel_rfl) (fun _ _ _ h => h) (by rfl) hS ?_ ?_
              rotate_left
              · intro w' hw'; go_simp; with_reducible rfl
              go_simp
              refine H_one (i := 1) (by as_aux_lemma => kernel_rfl) rfl (by rfl) ?_
              go_simp
              refine H_take (i := 4) (v := ?_) rfl (by as_aux_lemma => kernel_rfl) (by as_aux_lemma => kernel_rfl) (by as_aux_lemma => kernel_rfl) (fun _ _ _ h => h) (by rfl) hS ?_ ?_
              rotate_left
              · intro w' hw'; go_simp; with_reducible rfl
              go_simp
              refine H_take (i := 7) (v := ?_) rfl (by as_aux_lemma => kernel_rfl) (by as_aux_lemma => kernel_rfl) (by as_aux_lemma => kernel_rfl) (fun _ _ _ h => h) (by rfl) hS ?_ ?_
              rotate_left
              · intro w' hw'; go_simp; with_reducible rfl
              go_simp
              refine H_one (i := 8) (by as_aux_lemma => kernel_rfl) rfl (by rfl) ?_
              go_simp
              have hS1 : Only (fun k => k = g7) w8 (w8.setCell ⟨g7, 2, none⟩ (.int .i64 (fs + (m : Int)))).drew := ((Only.refl (fun k => k = g7) w8).set (g := g7) (j := 2) (.inl rfl) (.int .i64 (fs + (m : Int)))).drawn
              refine ⟨hS1, ?_⟩
              refine H_take (i := 9) (v := ?_) rfl (by as_aux_lemma => kernel_rfl) (by as_aux_lemma => kernel_rfl) (by as_aux_lemma => kernel_rfl) (fun _ _ _ h => h) (by rfl) hS1 ?_ ?_
              rotate_left
              · intro w' hw'; go_simp; with_reducible rfl
              go_simp
              refine H_one (i := 10) (by as_aux_lemma => kernel_rfl) rfl (by rfl) ?_
              go_simp
              have hS2 : Only (fun k => k = g7) w8 ((w8.setCell ⟨g7, 2, none⟩ (.int .i64 (fs + (m : Int)))).setCell ⟨g7, 1, none⟩ (.int .i64 xi)).drew := (((Only.refl (fun k => k = g7) w8).set (g := g7) (j := 2) (.inl rfl) (.int .i64 (fs + (m : Int)))).set (g := g7) (j := 1) (.inl rfl) (.int .i64 xi)).drawn
              refine ⟨hS2, ?_⟩
              refine H_take (i := 11) (v := ?_) rfl (by as_aux_lemma => kernel_rfl) (by as_aux_lemma => kernel_rfl) (by as_aux_lemma => kernel_rfl) (fun _ _ _ h => h) (by rfl) hS2 ?_ ?_
              rotate_left
              · intro w' hw'; go_simp; with_reducible rfl
              go_simp
              refine H_one (i := 12) (by as_aux_lemma => kernel_rfl) rfl (by rfl) ?_
              go_simp
              have hS3 : Only (fun k => k = g7) w8 (((w8.setCell ⟨g7, 2, none⟩ (.int .i64 (fs + (m : Int)))).setCell ⟨g7, 1, none⟩ (.int .i64 xi)).setCell ⟨g7, 4, none⟩ (.bool true)).drew := ((((Only.refl (fun k => k = g7) w8).set (g := g7) (j := 2) (.inl rfl) (.int .i64 (fs + (m : Int)))).set (g := g7) (j := 1) (.inl rfl) (.int .i64 xi)).set (g := g7) (j := 4) (.inl rfl) (.bool true)).drawn
              refine ⟨hS3, ?_⟩
              refine wpAnyH_done (by as_aux_lemma => kernel_rfl) ?_ _
              have hw7 : w.heap.size ≤ g7 := by have := HL.out.below.size; have := HG7.out; omega
              have hk7 : ∀ o, ¬ K g7 o := fun o hk => by
                have := lt_of_heap (HL.out.kp g7 o hk).1
                have := HG7.out
                omega
              have HFIN : Hid (LS K w X8 Xd' g gd least { h with rows := h.rows ++ [⟨⟨xi, xt, xk, xb⟩, fs⟩] } rd1 (((w8.setCell ⟨g7, 2, none⟩ (.int .i64 (fs + (m : Int)))).setCell ⟨g7, 1, none⟩ (.int .i64 xi)).setCell ⟨g7, 4, none⟩ (.bool true)).drew) := Lib.hid ((((HL8.out.far (j := 2) (.int .i64 (fs + (m : Int))) hw7 HX78.out.2.1 HX78.out.2.2 hk7).far (j := 1) (.int .i64 xi) hw7 HX78.out.2.1 HX78.out.2.2 hk7).far (j := 4) (.bool true) hw7 HX78.out.2.1 HX78.out.2.2 hk7).next (Below.refl _ _).drew)
              clear hS hS1 hS2 hS3 r0 y1 y2 y4 yf1 yf2 yf4 hw7 hk7
              go_wp2_with fail
              go_meet
              case rel => exact ⟨HFIN.out, heap_five3 HX78.out.1⟩
            case rest =>
              obtain ⟨l9, hx9⟩ := hcut
              have HL9 := Lib.hid l9
              have HX9 := Lib.hid hx9
              obtain ⟨⟨vr9, vf9, rv9, la9⟩, lz9⟩ := l9.lg
              obtain ⟨fa9, fc9, hvf9, hfl9, hfm9⟩ := row5_slice la9.frow
              subst hvf9
              have HLA9 := Lib.hid la9
              have hX79 := HX78.out.2.1
              obtain ⟨z0, z1, z2, z3, z4, zf, zz⟩ := five_cells hx9
              obtain ⟨w9, hw9⟩ : ∃ w9 : World, w9 = wc := ⟨_, rfl⟩
              subst hw9
              obtain ⟨s9, hs9⟩ : ∃ s9, s9 = st.length := ⟨_, rfl⟩
              have HS9 := Lib.hid hs9
              have c3 := (seven_cells la9.box).2.2.2.1
              have cz := lt_of_heap la9.box
              simp only at c3 hfl9
              have HC3 := Lib.hid c3
              have hsl : (s9 : Int) ≤ (fc9 : Int) := by have := HST.out.2; omega
              have HSL := Lib.hid hsl
              have hs6 : s9 ≤ 1000000 := by have := HST.out.2; have := HO.out.fl; omega
              clear y0 y1 y2 y3 y4 yf yz x0 x1 x2 x3 xz la9 hfm9 hfl9
              rw [← hs9]
              clear hs9
              go_upto_region 10 with fail
              go_cut [] from 87 (fun w' => ∃ X', LS K w X' Xd' g gd least { h with rows := h.rows ++ [⟨⟨xi, xt, xk, xb⟩, fs⟩], files := st ++ [⟨ff, xi, fs + (m : Int), fo, true⟩] } rd1 w')
              case first =>
                have hS : Only X8 w9 w9.drew := Only.of_below (Below.refl _ _).drew
                have p0 : ∀ w', Only X8 w9 w' → w'.cell? ⟨g7, 0, none⟩ = some (.int .i64 ff) := fun w' hw' => (World.cell?_of_block (a := ⟨g7, 0, none⟩) (hw'.block g7 zz hX79)).trans z0
                have p1 : ∀ w', Only X8 w9 w' → w'.cell? ⟨g7, 1, none⟩ = some (.int .i64 xi) := fun w' hw' => (World.cell?_of_block (a := ⟨g7, 1, none⟩) (hw'.block g7 zz hX79)).trans z1
                have p2 : ∀ w', Only X8 w9 w' → w'.cell? ⟨g7, 2, none⟩ = some (.int .i64 (fs + (m : Int))) := fun w' hw' => (World.cell?_of_block (a := ⟨g7, 2, none⟩) (hw'.block g7 zz hX79)).trans z2
                have p3 : ∀ w', Only X8 w9 w' → w'.cell? ⟨g7, 3, none⟩ = some (.int .i64 fo) := fun w' hw' => (World.cell?_of_block (a := ⟨g7, 3, none⟩) (hw'.block g7 zz hX79)).trans z3
                have p4 : ∀ w', Only X8 w9 w' → w'.cell? ⟨g7, 4, none⟩ = some (.bool true) := fun w' hw' => (World.cell?_of_block (a := ⟨g7, 4, none⟩) (hw'.block g7 zz hX79)).trans z4
                have HCZ := Lib.hid cz
                clear z0 z1 z2 z3 z4 zf zz hX79 c3
                refine wp_region_held (S := fun w' => Only X8 w9 w') (by kernel_rfl) ?_
                refine H_take (i := 0) (v := ?_) rfl (by as_aux_lemma => kernel_rfl) (by as_aux_lemma => kernel_rfl) (by as_aux_lemma => kernel_rfl) (fun _ _ _ h => h) (by rfl) hS ?_ ?_
                rotate_left
                · intro w' hw'; go_simp; with_reducible rfl
                go_simp
                refine H_take (i := 1) (v := ?_) rfl (by as_aux_lemma => kernel_rfl) (by as_aux_lemma => kernel_rfl) (by as_aux_lemma => kernel_rfl) (fun _ _ _ h => h) (by rfl) hS ?_ ?_
                rotate_left
                · intro w' hw'; go_simp; with_reducible rfl
                go_simp
                refine H_take (i := 2) (v := ?_) rfl (by as_aux_lemma => kernel_rfl) (by as_aux_lemma => kernel_rfl) (by as_aux_lemma => kernel_rfl) (fun _ _ _ h => h) (by rfl) hS ?_ ?_
                rotate_left
                · intro w' hw'; go_simp; with_reducible rfl
                go_simp
                refine H_take (i := 3) (v := ?_) rfl (by as_aux_lemma => kernel_rfl) (by as_aux_lemma => kernel_rfl) (by as_aux_lemma => kernel_rfl) (fun _ _ _ h => h) (by rfl) hS ?_ ?_
                rotate_left
                · intro w' hw'; go_simp; with_reducible rfl
                go_simp
                refine H_take (i := 4) (v := ?_) rfl (by as_aux_lemma => kernel_rfl) (by as_aux_lemma => kernel_rfl) (by as_aux_lemma => kernel_rfl) (fun _ _ _ h => h) (by rfl) hS ?_ ?_
                rotate_left
                · intro w' hw'; go_simp; with_reducible rfl
                go_simp
                refine H_take (i := 6) (v := ?_) rfl (by as_aux_lemma => kernel_rfl) (by as_aux_lemma => kernel_rfl) (by as_aux_lemma => kernel_rfl) (fun _ _ _ h => h) (by rfl) hS ?_ ?_
                rotate_left
                · intro w' hw'; go_simp; with_reducible rfl
                go_simp
                refine H_take (i := 8) (v := ?_) rfl (by as_aux_lemma => kernel_rfl) (by as_aux_lemma => kernel_rfl) (by as_aux_lemma => kernel_rfl) (fun _ _ _ h => h) (by rfl) hS ?_ ?_
                rotate_left
                · intro w' hw'; go_simp; with_reducible rfl
                go_simp
                refine H_both (i := 5) (j := 9) (by as_aux_lemma => kernel_rfl) rfl rfl (by rfl) (by rfl) ?_ ?_
                · have c3 := HC3.out
                  go_simp
                  clear c3
                  refine H_take (i := 7) (v := ?_) rfl (by as_aux_lemma => kernel_rfl) (by as_aux_lemma => kernel_rfl) (by as_aux_lemma => kernel_rfl) (fun _ _ _ h => h) (by rfl) hS ?_ ?_
                  rotate_left
                  · intro w' hw'; go_simp; with_reducible rfl
                  go_simp
                  refine H_one (i := 9) (by as_aux_lemma => kernel_rfl) rfl (by rfl) ?_
                  go_simp
                  have hS8 : Only X8 w9 (w9.alloc (.cells #[.int .i64 ff, .int .i64 xi, .int .i64 (fs + (m : Int)), .int .i64 fo, .bool true] 75)).drew := (Only.of_below (below_alloc _ _)).drawn
                  refine ⟨hS8, ?_⟩
                  refine H_one (i := 10) (by as_aux_lemma => kernel_rfl) rfl (by rfl) ?_
                  obtain ⟨ib, hib, hib0, hib1, hib2⟩ := info_parts infoSgFile
                  have hrow8 : (w9.alloc (.cells #[.int .i64 ff, .int .i64 xi, .int .i64 (fs + (m : Int)), .int .i64 fo, .bool true] 75)).drew.ownsRow 0 75 5 (.slice fa9 s9 fc9) s9 (fiCells st) := by
                    have h0 := fi_prefix HLA9.out.frow s9 (by rw [HS9.out]; exact HST.out.2)
                    have e : (h.files.take s9) = st := by rw [HS9.out]; exact HST.out.1.symm
                    simp only [e] at h0
                    exact ownsRow_same h0 fun k hk => Below.heap_alloc _ _ _ (h0.lt k hk).2
                  refine wp_append_any _ _ _ 58 rfl 0 75 ib _ 5 40 Tryz.underlying58 hib hib0 hib1 hib2 rfl (by decide) (.slice fa9 s9 fc9) s9 (fiCells st) rfl hrow8 (.slice (some ⟨w9.heap.size, 0, none⟩) 1 1) rfl 1 [.int .i64 ff, .int .i64 xi, .int .i64 (fs + (m : Int)), .int .i64 fo, .bool true] (yields_fi rfl) (by unfold maxLen; omega) (by omega) (Nat.zero_le _) ?_
                  intro v10 w10 happ
                  obtain ⟨la10, lc10, rfl⟩ := owned_slice happ.1
                  have happ' : AppLeft (w9.alloc (.cells #[.int .i64 ff, .int .i64 xi, .int .i64 (fs + (m : Int)), .int .i64 fo, .bool true] 75)) 0 75 5 (.slice fa9 s9 fc9) st.length 1 (fiCells st) (fiV ⟨ff, xi, fs + (m : Int), fo, true⟩) (.slice la10 (s9 + 1) lc10) w10 := by
                    rw [← HS9.out]
                    exact ⟨happ.1, ⟨happ.2.1.os, happ.2.1.tape, happ.2.1.output, happ.2.1.size, happ.2.1.block⟩, happ.2.2⟩
                  have HAPP : Hid (∃ X', LS K w X' Xd' g gd least { h with rows := h.rows ++ [⟨⟨xi, xt, xk, xb⟩, fs⟩], files := st ++ [⟨ff, xi, fs + (m : Int), fo, true⟩] } rd1 (w10.setCell ⟨g, 3, none⟩ (.slice la10 (s9 + 1) lc10))) := Lib.hid (HL9.out.pushFile (v0 := .slice fa9 s9 fc9) HLA9.out (by cases fa9 <;> rfl) happ')
                  have hS10 : Only X8 w9 w10 := by
                    have hg9 := happ'.2.1
                    have z9 := hg9.size
                    simp only [World.size_alloc] at z9
                    refine ⟨hg9.os, hg9.tape, hg9.output, by omega, fun k hk hn => ?_⟩
                    rw [hg9.block k (by simp; omega) (fun e => hn (HLA9.out.ff k (by rw [e]; cases fa9 <;> rfl)).1), Below.heap_alloc _ _ _ hk]
                  have hbox10 : w10.heap[g]? = _ := ((happ'.2.1.block g (by have := HCZ.out; simp; omega) (fun e => (HLA9.out.ff g (by rw [e]; cases fa9 <;> rfl)).2 rfl)).trans (Below.heap_alloc _ _ _ HCZ.out)).trans HLA9.out.box
                  have hc10 := (seven_cells hbox10).2.2.2.1
                  have hf10 : w10.frozen? ⟨g, 3, none⟩ = false := frozen_of_row _ _ 3 _ _ hbox10
                  have hz10 := lt_of_heap hbox10
                  clear hbox10
                  have HOX : Hid (Only X8 w9 (w10.setCell ⟨g, 3, none⟩ (.slice la10 (s9 + 1) lc10))) := Lib.hid (hS10.set (.inl HLA9.out.fg) _)
                  clear happ happ' hrow8
                  refine ⟨hS10, ?_⟩
                  refine H_take (i := 11) (v := ?_) rfl (by as_aux_lemma => kernel_rfl) (by as_aux_lemma => kernel_rfl) (by as_aux_lemma => kernel_rfl) (fun _ _ _ h => h) (by rfl) hS10 ?_ ?_
                  rotate_left
                  · intro w' hw'; go_simp; with_reducible rfl
                  go_simp
                  refine H_take (i := 12) (v := ?_) rfl (by as_aux_lemma => kernel_rfl) (by as_aux_lemma => kernel_rfl) (by as_aux_lemma => kernel_rfl) (fun _ _ _ h => h) (by rfl) hS10 ?_ ?_
                  rotate_left
                  · intro w' hw'; go_simp; with_reducible rfl
                  go_simp
                  refine H_take (i := 13) (v := ?_) rfl (by as_aux_lemma => kernel_rfl) (by as_aux_lemma => kernel_rfl) (by as_aux_lemma => kernel_rfl) (fun _ _ _ h => h) (by rfl) hS10 ?_ ?_
                  rotate_left
                  · intro w' hw'; go_simp; with_reducible rfl
                  go_simp
                  refine H_one (i := 14) (by as_aux_lemma => kernel_rfl) rfl (by rfl) ?_
                  go_simp
                  refine ⟨HOX.out, ?_⟩
                  refine wpAnyH_done (by as_aux_lemma => kernel_rfl) ?_ _
                  clear p0 p1 p2 p3 p4 hS hS8 hS10 hc10 hf10 hz10
                  go_wp2_with fail
                  go_meet
                  case rel => exact HAPP.out
                · go_simp
                  have hS8 : Only X8 w9 (w9.alloc (.cells #[.int .i64 ff, .int .i64 xi, .int .i64 (fs + (m : Int)), .int .i64 fo, .bool true] 75)).drew := (Only.of_below (below_alloc _ _)).drawn
                  refine ⟨hS8, ?_⟩
                  have c3 : (w9.alloc (.cells #[.int .i64 ff, .int .i64 xi, .int .i64 (fs + (m : Int)), .int .i64 fo, .bool true] 75)).drew.cell? ⟨g, 3, none⟩ = some (.slice fa9 h.files.length fc9) := ((below_alloc w9 _).cell (p := ⟨g, 3, none⟩) HCZ.out).trans HC3.out
                  refine H_one (i := 5) (by as_aux_lemma => kernel_rfl) rfl (by rfl) ?_
                  go_simp
                  clear c3
                  refine H_take (i := 7) (v := ?_) rfl (by as_aux_lemma => kernel_rfl) (by as_aux_lemma => kernel_rfl) (by as_aux_lemma => kernel_rfl) (fun _ _ _ h => h) (by rfl) hS8 ?_ ?_
                  rotate_left
                  · intro w' hw'; go_simp; with_reducible rfl
                  go_simp
                  refine H_one (i := 10) (by as_aux_lemma => kernel_rfl) rfl (by rfl) ?_
                  obtain ⟨ib, hib, hib0, hib1, hib2⟩ := info_parts infoSgFile
                  have hrow8 : (w9.alloc (.cells #[.int .i64 ff, .int .i64 xi, .int .i64 (fs + (m : Int)), .int .i64 fo, .bool true] 75)).drew.ownsRow 0 75 5 (.slice fa9 s9 fc9) s9 (fiCells st) := by
                    have h0 := fi_prefix HLA9.out.frow s9 (by rw [HS9.out]; exact HST.out.2)
                    have e : (h.files.take s9) = st := by rw [HS9.out]; exact HST.out.1.symm
                    simp only [e] at h0
                    exact ownsRow_same h0 fun k hk => Below.heap_alloc _ _ _ (h0.lt k hk).2
                  refine wp_append_any _ _ _ 58 rfl 0 75 ib _ 5 40 Tryz.underlying58 hib hib0 hib1 hib2 rfl (by decide) (.slice fa9 s9 fc9) s9 (fiCells st) rfl hrow8 (.slice (some ⟨w9.heap.size, 0, none⟩) 1 1) rfl 1 [.int .i64 ff, .int .i64 xi, .int .i64 (fs + (m : Int)), .int .i64 fo, .bool true] (yields_fi rfl) (by unfold maxLen; omega) (by omega) (Nat.zero_le _) ?_
                  intro v10 w10 happ
                  obtain ⟨la10, lc10, rfl⟩ := owned_slice happ.1
                  have happ' : AppLeft (w9.alloc (.cells #[.int .i64 ff, .int .i64 xi, .int .i64 (fs + (m : Int)), .int .i64 fo, .bool true] 75)) 0 75 5 (.slice fa9 s9 fc9) st.length 1 (fiCells st) (fiV ⟨ff, xi, fs + (m : Int), fo, true⟩) (.slice la10 (s9 + 1) lc10) w10 := by
                    rw [← HS9.out]
                    exact ⟨happ.1, ⟨happ.2.1.os, happ.2.1.tape, happ.2.1.output, happ.2.1.size, happ.2.1.block⟩, happ.2.2⟩
                  have HAPP : Hid (∃ X', LS K w X' Xd' g gd least { h with rows := h.rows ++ [⟨⟨xi, xt, xk, xb⟩, fs⟩], files := st ++ [⟨ff, xi, fs + (m : Int), fo, true⟩] } rd1 (w10.setCell ⟨g, 3, none⟩ (.slice la10 (s9 + 1) lc10))) := Lib.hid (HL9.out.pushFile (v0 := .slice fa9 s9 fc9) HLA9.out (by cases fa9 <;> rfl) happ')
                  have hS10 : Only X8 w9 w10 := by
                    have hg9 := happ'.2.1
                    have z9 := hg9.size
                    simp only [World.size_alloc] at z9
                    refine ⟨hg9.os, hg9.tape, hg9.output, by omega, fun k hk hn => ?_⟩
                    rw [hg9.block k (by simp; omega) (fun e => hn (HLA9.out.ff k (by rw [e]; cases fa9 <;> rfl)).1), Below.heap_alloc _ _ _ hk]
                  have hbox10 : w10.heap[g]? = _ := ((happ'.2.1.block g (by have := HCZ.out; simp; omega) (fun e => (HLA9.out.ff g (by rw [e]; cases fa9 <;> rfl)).2 rfl)).trans (Below.heap_alloc _ _ _ HCZ.out)).trans HLA9.out.box
                  have hc10 := (seven_cells hbox10).2.2.2.1
                  have hf10 : w10.frozen? ⟨g, 3, none⟩ = false := frozen_of_row _ _ 3 _ _ hbox10
                  have hz10 := lt_of_heap hbox10
                  clear hbox10
                  have HOX : Hid (Only X8 w9 (w10.setCell ⟨g, 3, none⟩ (.slice la10 (s9 + 1) lc10))) := Lib.hid (hS10.set (.inl HLA9.out.fg) _)
                  clear happ happ' hrow8
                  refine ⟨hS10, ?_⟩
                  refine H_take (i := 11) (v := ?_) rfl (by as_aux_lemma => kernel_rfl) (by as_aux_lemma => kernel_rfl) (by as_aux_lemma => kernel_rfl) (fun _ _ _ h => h) (by rfl) hS10 ?_ ?_
                  rotate_left
                  · intro w' hw'; go_simp; with_reducible rfl
                  go_simp
                  refine H_take (i := 12) (v := ?_) rfl (by as_aux_lemma => kernel_rfl) (by as_aux_lemma => kernel_rfl) (by as_aux_lemma => kernel_rfl) (fun _ _ _ h => h) (by rfl) hS10 ?_ ?_
                  rotate_left
                  · intro w' hw'; go_simp; with_reducible rfl
                  go_simp
                  refine H_take (i := 13) (v := ?_) rfl (by as_aux_lemma => kernel_rfl) (by as_aux_lemma => kernel_rfl) (by as_aux_lemma => kernel_rfl) (fun _ _ _ h => h) (by rfl) hS10 ?_ ?_
                  rotate_left
                  · intro w' hw'; go_simp; with_reducible rfl
                  go_simp
                  refine H_one (i := 14) (by as_aux_lemma => kernel_rfl) rfl (by rfl) ?_
                  go_simp
                  refine ⟨HOX.out, ?_⟩
                  refine wpAnyH_done (by as_aux_lemma => kernel_rfl) ?_ _
                  clear p0 p1 p2 p3 p4 hS hS8 hS10 hc10 hf10 hz10
                  go_wp2_with fail
                  go_meet
                  case rel => exact HAPP.out
              case rest =>
                obtain ⟨X11, l11⟩ := hcut
                have HL11 := Lib.hid l11
                clear l11 z0 z1 z2 z3 z4 zf zz c3 cz
                go_wp2_with fail
                go_ret
                rw [HLE3.out]
                exact ⟨rfl, X11, Xd', HL11.out⟩
        · have q : (rc1 != 0) = true := by simpa using hr0
          have HLE3 : Hid (layE least h d ⟨xi, xt, xk, xb⟩ = (rc1, h, rd1)) := Lib.hid (by rw [HLE2.out, if_pos hr0])
          clear HLE2
          go_wp2_with fail
          go_ret
          rw [HLE3.out]
          exact ⟨rfl, X, Xd', HLC.out.stay (by have := HL4.out; rw [HK2.out] at this; exact this)⟩
end Go.Proofs.YtamgjlegcegmeaaGreatDoor.M

/- Part: SegApp. -/
namespace Go.Proofs.YtamgjlegcegmeaaGreatDoor.M
open Go.RowKit Go.Maps
open D (Fl Dk)

/-- Bounds of what is held, by how many and how long. -/
structure HdB (n s : Nat) (h : Hd) : Prop where
  rl : h.rows.length ≤ n
  fl : h.files.length ≤ n
  fb : ∀ f ∈ h.files, (0 ≤ f.first ∧ f.first < 10000000000) ∧ (0 ≤ f.size ∧ f.size ≤ (s : Int))
  m : (0 ≤ h.mi ∧ h.mi < 10000000000) ∧ (0 ≤ h.mt ∧ h.mt < 10000000000)
  rb : ∀ r ∈ h.rows, (0 ≤ r.e.idx ∧ r.e.idx < 10000000000) ∧ (0 ≤ r.e.term ∧ r.e.term < 10000000000) ∧ (0 ≤ r.e.kind ∧ r.e.kind ≤ 255) ∧ r.e.b.length ≤ 1048576

theorem HdB.ok {n s : Nat} {h : Hd} (b : HdB n s h) (hn : n ≤ 1000000) (hs : s ≤ 1099511627776) : HdOk h :=
  ⟨Nat.le_trans b.rl hn, Nat.le_trans b.fl hn, fun f hf => ⟨(b.fb f hf).1, by have := (b.fb f hf).2; omega⟩, b.m, b.rb⟩

/-- An entry's bounds. -/
def EnB (e : En) : Prop := (1 ≤ e.idx ∧ e.idx < 10000000000) ∧ (1 ≤ e.term ∧ e.term < 10000000000) ∧ (0 ≤ e.kind ∧ e.kind ≤ 255) ∧ e.b.length ≤ 1048576

theorem followE_all : ∀ (es : List En) (m : Int × Int), 0 ≤ m.1 → followE m es = true → ∀ e ∈ es, EnB e
  | [], _, _, _, e, he => by simp at he
  | a :: es, m, hm, h, e, he => by
    rw [followE, Bool.and_eq_true] at h
    have h1 := of_decide_eq_true h.1
    have ha : EnB a := ⟨by omega, by omega, by omega, by omega⟩
    rcases List.mem_cons.1 he with he | he
    · rw [he]; exact ha
    · exact followE_all es _ (by show 0 ≤ a.idx; omega) h.2 e he

theorem sgRow_le {e : En} (h : e.b.length ≤ 1048576) : (sgRow e).length ≤ 1048700 := by
  rw [sgRow_length]
  have := sgForm_le e
  omega

theorem layTo_in {n s : Nat} {h : Hd} {least : Int} {e : En} (b : HdB n s h) (he : 0 ≤ e.idx ∧ e.idx < 10000000000) :
    ((0 ≤ (layTo least h e).1.first ∧ (layTo least h e).1.first < 10000000000) ∧ 0 ≤ (layTo least h e).1.size ∧ (layTo least h e).1.size ≤ (s : Int)) ∧ (layTo least h e).2.length ≤ n ∧ ∀ f ∈ (layTo least h e).2, f ∈ h.files := by
  unfold layTo
  cases hl : h.files.getLast? with
  | none => exact ⟨⟨he, by simp, by simp⟩, b.fl, fun f hf => hf⟩
  | some f =>
    simp only
    split
    · have := b.fb f (List.mem_of_getLast? hl)
      exact ⟨⟨this.1, this.2⟩, by have := b.fl; simp; omega, fun g hg => List.dropLast_subset _ hg⟩
    · exact ⟨⟨he, by simp, by simp⟩, b.fl, fun f hf => hf⟩

theorem layE_B {n s : Nat} {h : Hd} {d : Dk} {least : Int} {e : En} (b : HdB n s h) (he : EnB e) : HdB (n + 1) (s + (sgRow e).length) (layE least h d e).2.1 := by
  obtain ⟨⟨h1, h2, h3⟩, h4, h5⟩ := layTo_in (least := least) b (e := e) (by have := he.1; omega)
  rw [layE_eq]
  simp only
  split
  · exact ⟨Nat.le_succ_of_le b.rl, Nat.le_succ_of_le b.fl, fun f hf => ⟨(b.fb f hf).1, by have := (b.fb f hf).2; omega⟩, b.m, b.rb⟩
  · refine ⟨by have := b.rl; simp; omega, by simp; omega, fun f hf => ?_, b.m, fun r hr => ?_⟩
    · rcases List.mem_append.1 hf with hf | hf
      · have := b.fb f (h5 f hf)
        exact ⟨this.1, by omega⟩
      · rw [List.mem_singleton.1 hf]
        exact ⟨h1, by simp only; omega⟩
    · rcases List.mem_append.1 hr with hr | hr
      · exact b.rb r hr
      · rw [List.mem_singleton.1 hr]
        obtain ⟨a1, a2, a3, a4⟩ := he
        exact ⟨by simp only; omega, by simp only; omega, a3, a4⟩

theorem layE_used {h : Hd} {d : Dk} {least : Int} {e : En} (hw : Well d) : Well (layE least h d e).2.2 ∧ D.used (layE least h d e).2.2.fs ≤ D.used d.fs + (sgRow e).length := by
  rw [layE_eq]
  have := append_well hw (sgName (layTo least h e).1.first) [sgRow e]
  have e1 : [sgRow e].flatten.length = (sgRow e).length := by simp
  rw [e1] at this
  simp only
  split <;> exact this

/-- Byte slices in a row of a call's own. -/
def BlAt (w0 : World) (Ls : List (List UInt8)) (k : Nat) (v : Value) (wr : World) : Prop :=
  k ≤ Ls.length ∧ Below w0.heap.size w0 wr ∧ ∃ us : List Value, us.length = k ∧ wr.ownsRow w0.heap.size 34 1 v k us ∧ ∀ (i : Nat) (h1 : i < Ls.length) (h2 : i < us.length), wr.ownsRow w0.heap.size 5 1 us[i] Ls[i].length (Ls[i].map byteV)

theorem rows_far {w : World} {b1 b2 t1 t2 s1 s2 n1 n2 : Nat} {v1 v2 : Value} {xs ys : List Value} (h1 : w.ownsRow b1 t1 s1 v1 n1 xs) (h2 : w.ownsRow b2 t2 s2 v2 n2 ys) (ht : t1 ≠ t2) {k : Nat} (hk : v1.ownBlock = some k) : v2.ownBlock ≠ some k := fun e => by
  rcases h1.2 with ⟨h, _⟩ | ⟨g, cap, cur, hv, _, hb, _⟩
  · rw [h] at hk; cases hk
  · rcases h2.2 with ⟨h, _⟩ | ⟨g2, cap2, cur2, hv2, _, hb2, _⟩
    · rw [h] at e; cases e
    · rw [hv] at hk
      rw [hv2] at e
      cases hk
      cases e
      rw [hb] at hb2
      simp at hb2
      exact ht hb2.2

theorem BlAt.step {w0 wr w7 w8 : World} {Ls : List (List UInt8)} {k : Nat} {vw v v' : Value} {o : Obj} (h : BlAt w0 Ls k vw wr) (hk : k < Ls.length) (hown : Own wr Ls[k] v w7)
    (us : List Value) (hus : us.length = k) (hrow : wr.ownsRow w0.heap.size 34 1 vw k us)
    (heach : ∀ (i : Nat) (h1 : i < Ls.length) (h2 : i < us.length), wr.ownsRow w0.heap.size 5 1 us[i] Ls[i].length (Ls[i].map byteV))
    (h8 : w8.ownsRow w0.heap.size 34 1 v' (k + 1) (us ++ [v])) (g8 : (w7.alloc o).grownBy w8 vw.ownBlock) : BlAt w0 Ls (k + 1) v' w8 := by
  obtain ⟨_, hb, -⟩ := h
  have hb7 : Below w0.heap.size w0 w7 := hb.trans (hown.1.mono hb.size)
  have hsz7 : w0.heap.size ≤ w7.heap.size := hb7.size
  have hb8 : Below w0.heap.size w0 w8 := (hb7.alloc hsz7 o).grown g8 (by simp; omega) (fun j hj => (hrow.lt j hj).1)
  have hoth : ∀ j, j < w7.heap.size → vw.ownBlock ≠ some j → w8.heap[j]? = w7.heap[j]? := fun j hj h1 => by
    rw [g8.block j (by simp; omega) (fun e => h1 e.symm), Below.heap_alloc _ _ _ hj]
  have hold : ∀ j, j < wr.heap.size → w7.heap[j]? = wr.heap[j]? := fun j hj => hown.1.block j hj
  refine ⟨by omega, hb8, us ++ [v], by simp [hus], h8, fun i h1 h2 => ?_⟩
  by_cases hi : i < us.length
  · rw [List.getElem_append_left hi]
    refine ownsRow_same (heach i h1 hi) fun j hj => ?_
    have hjl := ((heach i h1 hi).lt j hj).2
    rw [hoth j (by have := hown.1.size; omega) (rows_far (heach i h1 hi) hrow (by decide) hj), hold j hjl]
  · have : i = k := by simp at h2; omega
    subst this
    rw [List.getElem_append_right (by omega)]
    simp only [hus, Nat.sub_self, List.getElem_cons_zero]
    have ho := hown.2
    refine ⟨ho.1, ?_⟩
    rcases ho.2 with h3 | ⟨g, cap, cur, hv, hg, hcur, h4⟩
    · exact .inl h3
    · refine .inr ⟨g, cap, cur, hv, Nat.le_trans hb.size hg, ?_, h4⟩
      have hg7 := (Array.getElem?_eq_some_iff.1 hcur).1
      rw [hoth g hg7 (fun e => by have := (hrow.lt g e).2; omega)]
      exact hcur

theorem yields_sl {w : World} {a : Option Addr} {n c : Nat} {t : TypeId} {g : Nat} (hg : g = w.heap.size) : Yields (w.alloc (.cells #[.slice a n c] t)) (.slice (some ⟨g, 0, none⟩) 1 1) 1 1 [.slice a n c] := by
  subst hg
  refine ⟨rfl, fun u hu => ?_, .inr ⟨_, _, rfl, fun j u hj => ?_⟩⟩
  · simp at hu
    rw [hu]; rfl
  · have h := cell_of_row _ w.heap.size j _ t _ (heap_alloc_new w (.cells #[.slice a n c] t))
    rw [addr_add, Nat.zero_add, h]
    simpa using hj

def sumK (es : List En) (k : Nat) : Nat := ((es.take k).map fun e => (sgRow e).length).sum

theorem sumK_succ (es : List En) (k : Nat) (h : k < es.length) : sumK es (k + 1) = sumK es k + (sgRow es[k]).length := by
  unfold sumK
  rw [List.take_succ_eq_append_getElem h, List.map_append, List.sum_append]
  simp

theorem sumK_le (es : List En) (k : Nat) : sumK es k ≤ (es.map fun e => (sgRow e).length).sum := by
  have h : (es.map fun e => (sgRow e).length).sum = sumK es k + ((es.drop k).map fun e => (sgRow e).length).sum := by
    unfold sumK
    rw [← List.sum_append, ← List.map_append, List.take_append_drop]
  omega

theorem layEs_ok {least : Int} {h h' : Hd} {d d' : Dk} {e : En} {es : List En} (hl : layE least h d e = (0, h', d')) : layEs least h d (e :: es) = layEs least h' d' es := by
  rw [layEs, hl]
  rfl

theorem layEs_err {least r : Int} {h h' : Hd} {d d' : Dk} {e : En} {es : List En} (hr : r ≠ 0) (hl : layE least h d e = (r, h', d')) : layEs least h d (e :: es) = (r, h', d') := by
  rw [layEs, hl]
  split
  · rename_i q
    simp only [Prod.mk.injEq] at q
    exact absurd q.1 hr
  · rfl

theorem infoBl : (Tryz.prog.info? 34).map (fun i => (i.zero, i.size, i.bytes)) = some (some (.slice none 0 0), 1, 24) := by kernel_rfl

set_option maxRecDepth 20000 in
set_option maxHeartbeats 6400000 in
theorem Append_any (K : Nat → Obj → Prop) (w wa : World) (X Xd : Nat → Prop) (g gd : Nat) (least : Int) (h : Hd) (d : Dk) (es : List En) (v : Value) (F : Nat → Prop) (n s : Nat)
    (l : LS K w X Xd g gd least h d wa) (hb : HdB n s h) (hn : n + es.length ≤ 100000) (hs : s + (es.map fun e => (sgRow e).length).sum ≤ 1000000000) (hv : RepEs wa F es v) (hF : ∀ k, F k → k < wa.heap.size ∧ ¬ X k ∧ ¬ Xd k)
    (hu : D.used d.fs + (es.map fun e => (sgRow e).length).sum ≤ 1000000000) (hT : Hid (Tab w)) (hP : Hid (Pow10 w)) :
    Calls Tryz.prog 7 #[.pointer (some ⟨g, 0, none⟩), v] wa fun x w' => x = .returned (.int .i64 (appendE least h d es).1) ∧ ∃ X' Xd', LS K w X' Xd' g gd least (appendE least h d es).2.1 (appendE least h d es).2.2 w' := by
  obtain ⟨va, vc, rfl, hvl⟩ := hv.slice
  have HL := Lib.hid l
  have HB := Lib.hid hb
  have HV := Lib.hid hv
  have HF := Lib.hid hF
  have HU := Lib.hid hu
  have HS := Lib.hid hs
  have hok := hb.ok (by omega) (by omega)
  have hlast := last_in hok
  obtain ⟨N, hN⟩ : ∃ N, N = es.length := ⟨_, rfl⟩
  rw [← hN] at HV hvl hn ⊢
  have HN := Lib.hid hN
  have HNN := Lib.hid hn
  obtain ⟨ll, hll⟩ : ∃ ll, ll = h.last := ⟨_, rfl⟩
  have HLL := Lib.hid hll
  rw [← hll] at hlast
  obtain ⟨l1, l2⟩ := ll
  simp only at hlast
  have hcall := l.lg.last_any
  rw [← hll] at hcall
  have HCA := Lib.hid hcall
  clear l hb hv hF hu hs hok hN hll hcall
  go_enter Tryz.func7, Tryz.ntmps7
  go_wp2_with fail
  refine HCA.out.mono ?_
  rintro e w1 ⟨rfl, hb1⟩
  have HB1 := Lib.hid hb1
  have HV1 : Hid (RepEs w1 F es (.slice va N vc)) := Lib.hid (HV.out.same (fun _ h => h) fun j hj => hb1.block j (HF.out j hj).1)
  go_wp2_with fail
  refine (follow_any l1 l2 es _ F w1 HV1.out (fun j hj => Nat.lt_of_lt_of_le (HF.out j hj).1 hb1.size) (by omega) (by omega)).mono ?_
  rintro e w2 ⟨rfl, hb2⟩
  have HB2 : Hid (Below wa.heap.size wa w2) := Lib.hid (hb1.trans (hb2.mono hb1.size))
  obtain ⟨fo, hfo⟩ : ∃ fo, fo = followE (l1, l2) es := ⟨_, rfl⟩
  rw [← hfo]
  have HFO : Hid (fo = followE h.last es) := Lib.hid (by rw [hfo, HLL.out])
  clear hb1 hb2 hfo hlast
  have HL2 := Lib.hid (HL.out.next HB2.out)
  cases fo with
  | false =>
    have HE : Hid (appendE least h d es = (2, h, d)) := Lib.hid (by unfold appendE; rw [if_pos HFO.out.symm])
    go_wp2_with fail
    go_ret
    rw [HE.out]
    exact ⟨rfl, X, Xd, HL2.out⟩
  | true =>
    have HALL : Hid (∀ e ∈ es, EnB e) := Lib.hid (followE_all es h.last (last_in (HB.out.ok (by have := HNN.out; omega) (by have := HS.out; omega))).1.1 HFO.out.symm)
    go_wp2_with fail
    have HBL0 : Hid (BlAt w2 (es.map sgRow) 0 (.slice (some ⟨w2.heap.size, 0, none⟩) 0 0) (w2.alloc (.cells #[] 34))) := Lib.hid
      ⟨Nat.zero_le _, below_alloc _ _, [], rfl, World.ownsRow_lit w2 #[] 0 (base := w2.heap.size) (e := 34) (size := 1) (Nat.le_refl _) (by unfold maxLen; omega) rfl, fun i _ h => by simp at h⟩
    have HBF : Hid (∀ wa', Below w2.heap.size w2 wa' → RepEs wa' F es (.slice va N vc) ∧ ∀ j, F j → j < wa'.heap.size) := Lib.hid fun wa' hb => by
      have hz : ∀ j, F j → j < w2.heap.size := fun j hj => Nat.lt_of_lt_of_le (HF.out j hj).1 HB2.out.size
      exact ⟨HV.out.same (fun _ h => h) fun j hj => (hb.block j (hz j hj)).trans (HB2.out.block j (HF.out j hj).1), fun j hj => Nat.lt_of_lt_of_le (hz j hj) hb.size⟩
    have HTX : Hid (∀ wx, Below w2.heap.size w2 wx → Hid (Tab wx)) := Lib.hid fun wx hb => Lib.hid (((hT.out.next HL.out.below).next HB2.out).next hb)
    go_loopg [5, 6, 8, 9, 23] N (fun gk vw y _ _ i wr' => ∃ k : Nat, i = .int .i64 (k : Int) ∧ k + gk = N ∧ y = .int .i64 (sumK es k : Int) ∧ BlAt w2 (es.map sgRow) k vw wr')
    case atStart => exact ⟨0, rfl, by omega, rfl, HBL0.out⟩
    case round =>
      obtain ⟨k, rfl, hkg, rfl, hbl⟩ := hrel
      have HBL := Lib.hid hbl
      obtain ⟨-, hbw, us, hus, hrow, heach⟩ := hbl
      have HRF := (HBF.out wr hbw)
      by_cases hlt : k < N
      · have hkk : (k : Int) < (N : Int) := by omega
        have hlt2 : k < es.length := by rw [← HN.out]; exact hlt
        obtain ⟨gb, off, rfl, hFb, -, c0, c1, c2, u, c3, hu⟩ := HRF.1.elem k hlt2
        have hgz := HRF.2 gb hFb
        have hsk := sumK_succ es k hlt2
        have hall := HALL.out _ (List.getElem_mem hlt2)
        have hsl := sumK_le es (k + 1)
        obtain ⟨e, he⟩ : ∃ e, e = es[k] := ⟨_, rfl⟩
        rw [← he] at c0 c1 c2 hu hsk hall
        have HEK : Hid (es[k]? = some e) := Lib.hid (by rw [List.getElem?_eq_getElem hlt2, he])
        have HSK := Lib.hid hsk
        have HSKB : Hid (sumK es (k + 1) ≤ 1000000000) := Lib.hid (by have := HS.out; omega)
        have HEB := Lib.hid hall
        obtain ⟨ua, uc, rfl, hul⟩ := hu.slice
        have HUR : Hid (∀ w', Below wr.heap.size wr w' → RepB w' F e.b (.slice ua e.b.length uc)) := Lib.hid fun w' hb => hu.same (fun _ h => h) fun j hj => hb.block j (HRF.2 j hj)
        have HFZ : Hid (∀ j, F j → j < wr.heap.size) := Lib.hid HRF.2
        obtain ⟨xi, xt, xk, xb⟩ := e
        simp only at c0 c1 c2 c3
        obtain ⟨nb, hnb⟩ : ∃ nb, nb = xb.length := ⟨_, rfl⟩
        have HNB := Lib.hid hnb
        rw [← hnb] at c3
        obtain ⟨bva, bvc, rfl⟩ := owned_slice hrow
        clear he hsk hsl hall hu hul hnb HRF hlt2
        go_wp2_with fail
        have hbe := below_alloc wr (.cells #[.int .i64 xi, .int .i64 xt, .int .i64 xk, .slice ua nb uc] 36)
        refine (rowOf_any ⟨xi, xt, xk, xb⟩ (.slice ua nb uc) F _ (by have := HUR.out _ hbe; rw [← HNB.out] at this; exact this) (fun j hj => Nat.lt_of_lt_of_le (HFZ.out j hj) hbe.size) (by have := HEB.out.1; simp only at this ⊢; omega) (by have := HEB.out.2.1; simp only at this ⊢; omega) (by have := HEB.out.2.2.1; simp only at this ⊢; omega) HEB.out.2.2.2 (HTX.out _ (hbw.trans (hbe.mono hbw.size)))).mono ?_
        rintro e7 w7 ⟨u7, rfl, ho7⟩
        replace ho7 := ho7.base hbe
        obtain ⟨ra, rc, rfl⟩ := ho7.slice
        obtain ⟨m, hm⟩ : ∃ m, m = (sgRow ⟨xi, xt, xk, xb⟩).length := ⟨_, rfl⟩
        rw [← hm] at ho7 ⊢
        have HM := Lib.hid hm
        have HO7 := Lib.hid ho7
        have HROW := Lib.hid hrow
        have HEACH := Lib.hid heach
        have HUSL := Lib.hid hus
        obtain ⟨ib, hib, hib0, hib1, hib2⟩ := info_parts infoBl
        have hrow7 : (w7.alloc (.cells #[.slice ra m rc] 34)).ownsRow w2.heap.size 34 1 (.slice bva k bvc) k us := ownsRow_same hrow fun j hj => by
          have hjz := (hrow.lt j hj).2
          rw [Below.heap_alloc _ _ _ (by have := ho7.1.size; omega)]
          exact ho7.1.block j hjz
        have HR7 := Lib.hid hrow7
        have HZ7 : Hid (w2.heap.size ≤ w7.heap.size) := Lib.hid (Nat.le_trans hbw.size ho7.1.size)
        have hsum : (sumK es k : Int) + (m : Int) = (sumK es (k + 1) : Int) := by have := HSK.out; rw [← hm] at this; omega
        have hsb : (sumK es (k + 1) : Int) ≤ 1000000000 := by have := HSKB.out; omega
        have hwk : IntKind.i64.wrap ((sumK es k : Int) + (m : Int)) = (sumK es (k + 1) : Int) := by rw [hsum]; exact IntWalk.i64_in _ (by omega)
        have HN2 := Lib.hid HNN.out
        clear ho7 hrow heach hus hrow7 hbe c0 c1 c2 c3 hm hbw hsum
        go_wp2_with (at_builtin; refine wpList_append_any _ rfl (.tmp 29) (.tmp 31) 68 rfl w2.heap.size 34 ib (.slice none 0 0) 1 24 Tryz.underlying68 hib hib0 hib1 hib2 rfl (by decide) (.slice bva k bvc) k us rfl HR7.out (.slice (some ⟨w7.heap.size, 0, none⟩) 1 1) rfl 1 [.slice ra m rc] (yields_sl rfl) (by unfold maxLen; have := HNN.out; omega) (by have := HNN.out; omega) (by have := HZ7.out; simp; omega) ?_)
        intro v8 w8 happ
        obtain ⟨la8, lc8, rfl⟩ := owned_slice happ.1
        have HB8 : Hid (BlAt w2 (es.map sgRow) (k + 1) (.slice la8 (k + 1) lc8) w8) := Lib.hid (HBL.out.step (by rw [List.length_map, ← HN.out]; exact hlt) (v := .slice ra m rc) (by
          have h1 := HO7.out
          have h2 := HEK.out
          rw [List.getElem?_eq_getElem (by rw [← HN.out]; exact hlt)] at h2
          rw [List.getElem_map, Option.some.inj h2]
          exact h1) us HUSL.out HROW.out HEACH.out happ.1 happ.2.1)
        clear happ
        go_wp2_with fail
        go_roundg (gk - 1)
        case measure => omega
        case rel => exact ⟨k + 1, by go_num, by omega, rfl, HB8.out⟩
      · have hkk : ¬ (k : Int) < (N : Int) := by omega
        obtain rfl : k = N := by omega
        have HW5 := Lib.hid (HL2.out.next hbw)
        have HROW := Lib.hid hrow
        have HEACH := Lib.hid heach
        have HUSL := Lib.hid hus
        have hsN : sumK es k = (es.map fun e => (sgRow e).length).sum := by unfold sumK; rw [HN.out, List.take_length]
        have HRF := Lib.hid (HBF.out wr hbw)
        obtain ⟨bva, bvc, rfl⟩ := owned_slice hrow
        obtain ⟨S, hS⟩ : ∃ S, S = sumK es k := ⟨_, rfl⟩
        rw [← hS] at hsN ⊢
        have HSN := Lib.hid hsN
        clear hrow heach hus hsN hS hlt
        obtain ⟨⟨vr5, vf5, rv5, la5⟩, -⟩ := HW5.out.lg
        obtain ⟨d0, d1, d2, d3, d4, d5, d6, dz⟩ := seven_cells la5.box
        clear la5 d0 d1 d2 d3 d4 d6
        go_wp2_with fail
        refine (PFree_any d Xd gd wr HW5.out.ds.dsk.1).mono ?_
        rintro e ww ⟨rfl, rfl⟩
        clear d5 dz
        by_cases hfree : d.free < (S : Int)
        · have HE : Hid (appendE least h d es = (31, h, d)) := Lib.hid (by
            unfold appendE
            rw [if_neg (by rw [← HFO.out]; simp), if_pos (by rw [← HSN.out]; exact hfree)])
          go_wp2_with fail
          go_ret
          rw [HE.out]
          exact ⟨rfl, X, Xd, HW5.out⟩
        · have HE : Hid (appendE least h d es = layEs least h d es) := Lib.hid (by
            unfold appendE
            rw [if_neg (by rw [← HFO.out]; simp), if_neg (by rw [← HSN.out]; exact hfree)])
          obtain ⟨w5, hw5⟩ : ∃ w5 : World, w5 = wr := ⟨_, rfl⟩
          subst hw5
          obtain ⟨N, hNk⟩ : ∃ N, N = k := ⟨_, rfl⟩
          subst hNk
          go_wp2_with fail
          have HK0 : Hid (LS (fun q o => w5.heap[q]? = some o ∧ ¬ X q ∧ ¬ Xd q) w X Xd g gd least h d w5) := Lib.hid HW5.out.keep
          go_loopg [10, 11, 12, 47] N (fun gk _ _ _ i wr' => ∃ (j : Nat) (hj : Hd) (dj : Dk) (X' Xd' : Nat → Prop), i = .int .i64 (j : Int) ∧ j + gk = N ∧ layEs least h d es = layEs least hj dj (es.drop j) ∧ LS (fun q o => w5.heap[q]? = some o ∧ ¬ X q ∧ ¬ Xd q) w X' Xd' g gd least hj dj wr' ∧ HdB (n + j) (s + sumK es j) hj ∧ D.used dj.fs ≤ D.used d.fs + sumK es j)
          case atStart => exact ⟨0, h, d, X, Xd, rfl, by omega, rfl, HK0.out, HB.out, by simp [sumK]⟩
          case round =>
            obtain ⟨j, hj, dj, X', Xd', rfl, hjg, hle, hls, hbj, huj⟩ := hrel
            have HLE := Lib.hid hle
            have HLS := Lib.hid hls
            have HBJ := Lib.hid hbj
            have HUJ := Lib.hid huj
            by_cases hlt : j < N
            · have hkk : (j : Int) < (N : Int) := by omega
              have hlt2 : j < es.length := by rw [← HN.out]; exact hlt
              have hstay : ∀ q, q < w5.heap.size → ¬ X q → ¬ Xd q → wr.heap[q]? = w5.heap[q]? := fun q h1 h2 h3 => by
                have e2 : w5.heap[q]? = some (w5.heap[q]'h1) := Array.getElem?_eq_getElem h1
                exact (hls.kp q _ ⟨e2, h2, h3⟩).1.trans e2.symm
              have hFs : ∀ q, F q → wr.heap[q]? = w5.heap[q]? := fun q hq => hstay q (HRF.out.2 q hq) (HF.out q hq).2.1 (HF.out q hq).2.2
              have hFn : ∀ q, F q → ¬ X' q ∧ ¬ Xd' q ∧ q < wr.heap.size := fun q hq => by
                have hqz := HRF.out.2 q hq
                have e2 : w5.heap[q]? = some (w5.heap[q]'hqz) := Array.getElem?_eq_getElem hqz
                have := hls.kp q _ ⟨e2, (HF.out q hq).2.1, (HF.out q hq).2.2⟩
                exact ⟨this.2.1, this.2.2, lt_of_heap this.1⟩
              obtain ⟨gb, off, rfl, hFb, -, c0, c1, c2, u, c3, hu⟩ := (HRF.out.1.same (fun _ h => h) hFs).elem j hlt2
              have hgz := (hFn gb hFb).2.2
              have hsk := sumK_succ es j hlt2
              have hall := HALL.out _ (List.getElem_mem hlt2)
              have hsl := sumK_le es (j + 1)
              -- the row
              have huj2 : j < us.length := by rw [HUSL.out]; exact hlt
              obtain ⟨gR, hbv, hgR, cR⟩ : ∃ gR, bva = some ⟨gR, 0, none⟩ ∧ (w2.heap.size ≤ gR ∧ gR < w5.heap.size) ∧ w5.cell? ⟨gR, j, none⟩ = some us[j] := by
                have hr := HROW.out
                rcases hr.2 with ⟨h1, h2⟩ | ⟨gg, cap, cur, hv, hg, hcur, hn2, hm, hs2, ht⟩
                · omega
                · cases hv
                  refine ⟨gg, rfl, hr.lt gg rfl, ?_⟩
                  rw [hr.cellAt j (by omega)]
                  exact List.getElem?_eq_getElem huj2
              have hnew : ∀ q, w2.heap.size ≤ q → ¬ X q ∧ ¬ Xd q := fun q hq => ⟨fun hx => by have := HL2.out.lt hx; omega, fun hx => by have := HL2.out.ds.lt q hx; omega⟩
              have hrepR : RepB w5 (fun b => w2.heap.size ≤ b ∧ b < w5.heap.size) (sgRow es[j]) us[j] := by
                have := HEACH.out j (by rw [List.length_map]; exact hlt2) huj2
                rw [List.getElem_map] at this
                exact RepB.of_own this
              have hrepW : RepB wr (fun b => w2.heap.size ≤ b ∧ b < w5.heap.size) (sgRow es[j]) us[j] := hrepR.same (fun _ h => h) fun q hq => hstay q hq.2 (hnew q hq.1).1 (hnew q hq.1).2
              have cRw : wr.cell? ⟨gR, j, none⟩ = some us[j] := (World.cell?_of_block (a := ⟨gR, j, none⟩) (hstay gR hgR.2 (hnew gR hgR.1).1 (hnew gR hgR.1).2)).trans cR
              have hRn : ∀ q, (w2.heap.size ≤ q ∧ q < w5.heap.size) → ¬ X' q ∧ ¬ Xd' q ∧ q < wr.heap.size := fun q hq => by
                have e2 : w5.heap[q]? = some (w5.heap[q]'hq.2) := Array.getElem?_eq_getElem hq.2
                have := hls.kp q _ ⟨e2, (hnew q hq.1).1, (hnew q hq.1).2⟩
                exact ⟨this.2.1, this.2.2, lt_of_heap this.1⟩
              have hgRn := hRn gR hgR
              obtain ⟨ur, hur⟩ : ∃ ur, ur = us[j] := ⟨_, rfl⟩
              rw [← hur] at hrepW cRw
              have HDR : Hid (es.drop j = es[j] :: es.drop (j + 1)) := Lib.hid (List.drop_eq_getElem_cons hlt2)
              obtain ⟨e, he⟩ : ∃ e, e = es[j] := ⟨_, rfl⟩
              rw [← he] at c0 c1 c2 hu hsk hall hrepW HDR
              have HSK := Lib.hid hsk
              have HSL := Lib.hid hsl
              have HEB := Lib.hid hall
              have HUR := Lib.hid hu
              have HRW := Lib.hid hrepW
              have HFN := Lib.hid hFn
              have HRN := Lib.hid hRn
              obtain ⟨ua, uc, rfl, hul⟩ := hu.slice
              obtain ⟨ra, rc, rfl, hrl⟩ := hrepW.slice
              obtain ⟨xi, xt, xk, xb⟩ := e
              simp only at c0 c1 c2 c3
              obtain ⟨nb, hnb⟩ : ∃ nb, nb = xb.length := ⟨_, rfl⟩
              obtain ⟨m, hm⟩ : ∃ m, m = (sgRow ⟨xi, xt, xk, xb⟩).length := ⟨_, rfl⟩
              have HNB := Lib.hid hnb
              have HM := Lib.hid hm
              rw [← hnb] at c3 HUR
              rw [← hm] at cRw HRW
              subst hbv
              clear he hsk hsl hall hu hul hnb hm hur hrepW hrepR cR hRn hFn hFs hstay hnew huj2 hle hls hbj huj hrl hlt2
              obtain ⟨ob, hob⟩ : ∃ ob : Obj, ob = .cells #[.int .i64 xi, .int .i64 xt, .int .i64 xk, .slice ua nb uc] 36 := ⟨_, rfl⟩
              have HOB := Lib.hid hob
              clear hob
              go_upto_region 15 with fail
              obtain ⟨W, hW⟩ : ∃ W, W = wr.alloc (.cells #[.int .i64 xi, .int .i64 xt, .int .i64 xk, .slice ua nb uc] 36) := ⟨_, rfl⟩
              obtain ⟨ge, hge⟩ : ∃ ge, ge = wr.heap.size := ⟨_, rfl⟩
              have hbW : Below wr.heap.size wr W := by rw [hW]; exact below_alloc _ _
              have hxe : W.heap[ge]? = some (.cells #[.int .i64 xi, .int .i64 xt, .int .i64 xk, .slice ua nb uc] 36) := by rw [hW, hge]; exact heap_new _ _ _ rfl
              have hgz9 : ge + 1 = W.heap.size := by rw [hW, hge]; simp
              have hgen : ¬ X' ge ∧ ¬ Xd' ge := ⟨fun hx => by have := HLS.out.lt hx; omega, fun hx => by have := HLS.out.ds.lt ge hx; omega⟩
              rw [← hW, ← hge]
              have HLW := Lib.hid (HLS.out.next hbW)
              have HBW := Lib.hid hbW
              have HGE := Lib.hid hge
              clear hW hge c0 c1 c2 c3
              go_cut [12] from 48 to 62 (fun x w' => ∃ X'' Xd'', x = .int .i64 (layE least hj dj ⟨xi, xt, xk, xb⟩).1 ∧ LS (fun q o => W.heap[q]? = some o ∧ ¬ X' q ∧ ¬ Xd' q) w X'' Xd'' g gd least (layE least hj dj ⟨xi, xt, xk, xb⟩).2.1 (layE least hj dj ⟨xi, xt, xk, xb⟩).2.2 w')
              case first =>
                have hS : Only (fun q => X' q ∨ Xd' q) W W.drew := Only.of_below (Below.refl _ _).drew
                have hgeW := lt_of_heap hxe
                have blkE : ∀ w', Only (fun q => X' q ∨ Xd' q) W w' → w'.heap[ge]? = some (.cells #[.int .i64 xi, .int .i64 xt, .int .i64 xk, .slice ua nb uc] 36) := fun w' hw' => (hw'.block ge hgeW fun hx => hx.elim hgen.1 hgen.2).trans hxe
                have q0 : ∀ w', Only (fun q => X' q ∨ Xd' q) W w' → w'.cell? ⟨ge, 0, none⟩ = some (.int .i64 xi) := fun w' hw' => cell_of_row _ _ 0 _ _ _ (blkE w' hw')
                have q1 : ∀ w', Only (fun q => X' q ∨ Xd' q) W w' → w'.cell? ⟨ge, 1, none⟩ = some (.int .i64 xt) := fun w' hw' => cell_of_row _ _ 1 _ _ _ (blkE w' hw')
                have q2 : ∀ w', Only (fun q => X' q ∨ Xd' q) W w' → w'.cell? ⟨ge, 2, none⟩ = some (.int .i64 xk) := fun w' hw' => cell_of_row _ _ 2 _ _ _ (blkE w' hw')
                have q3 : ∀ w', Only (fun q => X' q ∨ Xd' q) W w' → w'.cell? ⟨ge, 3, none⟩ = some (.slice ua nb uc) := fun w' hw' => cell_of_row _ _ 3 _ _ _ (blkE w' hw')
                have hgRW : gR < W.heap.size := Nat.lt_of_lt_of_le hgRn.2.2 hbW.size
                have r0 : ∀ w', Only (fun q => X' q ∨ Xd' q) W w' → w'.cell? ⟨gR, j, none⟩ = some (.slice ra m rc) := fun w' hw' => (World.cell?_of_block (a := ⟨gR, j, none⟩) ((hw'.block gR hgRW fun hx => hx.elim hgRn.1 hgRn.2.1).trans (hbW.block gR hgRn.2.2))).trans cRw
                have HPW : Hid (Hid (Pow10 W.drew)) := Lib.hid (Lib.hid (hP.out.next (HLW.out.next (Below.refl _ _).drew).below))
                have HGEW : Hid (W.heap[ge]? = some (.cells #[.int .i64 xi, .int .i64 xt, .int .i64 xk, .slice ua nb uc] 36) ∧ ¬ X' ge ∧ ¬ Xd' ge ∧ ge + 1 = W.heap.size) := Lib.hid ⟨hxe, hgen.1, hgen.2, hgz9⟩
                have HCALL : Hid (Calls Tryz.prog 27 #[.pointer (some ⟨g, 0, none⟩), .agg #[.int .i64 xi, .int .i64 xt, .int .i64 xk, .slice ua nb uc], .slice ra m rc] W.drew fun x w' => x = .returned (.int .i64 (layE least hj dj ⟨xi, xt, xk, xb⟩).1) ∧ ∃ X'' Xd'', LS (fun q o => W.heap[q]? = some o ∧ ¬ X' q ∧ ¬ Xd' q) w X'' Xd'' g gd least (layE least hj dj ⟨xi, xt, xk, xb⟩).2.1 (layE least hj dj ⟨xi, xt, xk, xb⟩).2.2 w') := Lib.hid
                  (sgLay_any (fun q o => W.heap[q]? = some o ∧ ¬ X' q ∧ ¬ Xd' q) w W.drew X' Xd' g gd least hj dj ⟨xi, xt, xk, xb⟩ (sgRow ⟨xi, xt, xk, xb⟩) (.slice ua nb uc) (.slice ra m rc) F (fun b => w2.heap.size ≤ b ∧ b < w5.heap.size) (HLW.out.keep.next (Below.refl _ _).drew) (HBJ.out.ok (by have := HNN.out; omega) (by have := HSL.out; have := HS.out; have := sumK_le es j; omega)) (by have := HEB.out.1; simp only at this ⊢; omega) (HUR.out.same (fun _ h => h) fun q hq => HBW.out.block q (HFN.out q hq).2.2) (fun q hq => ⟨Nat.lt_of_lt_of_le (HFN.out q hq).2.2 HBW.out.size, (HFN.out q hq).1, (HFN.out q hq).2.1⟩) HEB.out.2.2.2 (HRW.out.same (fun _ h => h) fun q hq => HBW.out.block q (HRN.out q hq).2.2) (fun q hq => ⟨Nat.lt_of_lt_of_le (HRN.out q hq).2.2 HBW.out.size, (HRN.out q hq).1, (HRN.out q hq).2.1⟩) rfl (by have := HUJ.out; have := HU.out; have := sumK_le es j; omega) HPW.out)
                clear blkE cRw hxe
                refine wp_region_held (S := fun w' => Only (fun q => X' q ∨ Xd' q) W w') (by kernel_rfl) ?_
                refine H_take (i := 0) (v := ?_) rfl (by as_aux_lemma => kernel_rfl) (by as_aux_lemma => kernel_rfl) (by as_aux_lemma => kernel_rfl) (fun _ _ _ h => h) (by rfl) hS ?_ ?_
                rotate_left
                · intro w' hw'; go_simp; with_reducible rfl
                go_simp
                refine H_take (i := 1) (v := ?_) rfl (by as_aux_lemma => kernel_rfl) (by as_aux_lemma => kernel_rfl) (by as_aux_lemma => kernel_rfl) (fun _ _ _ h => h) (by rfl) hS ?_ ?_
                rotate_left
                · intro w' hw'; go_simp; with_reducible rfl
                go_simp
                refine H_take (i := 2) (v := ?_) rfl (by as_aux_lemma => kernel_rfl) (by as_aux_lemma => kernel_rfl) (by as_aux_lemma => kernel_rfl) (fun _ _ _ h => h) (by rfl) hS ?_ ?_
                rotate_left
                · intro w' hw'; go_simp; with_reducible rfl
                go_simp
                refine H_take (i := 3) (v := ?_) rfl (by as_aux_lemma => kernel_rfl) (by as_aux_lemma => kernel_rfl) (by as_aux_lemma => kernel_rfl) (fun _ _ _ h => h) (by rfl) hS ?_ ?_
                rotate_left
                · intro w' hw'; go_simp; with_reducible rfl
                go_simp
                refine H_take (i := 4) (v := ?_) rfl (by as_aux_lemma => kernel_rfl) (by as_aux_lemma => kernel_rfl) (by as_aux_lemma => kernel_rfl) (fun _ _ _ h => h) (by rfl) hS ?_ ?_
                rotate_left
                · intro w' hw'; go_simp; with_reducible rfl
                go_simp
                refine H_take (i := 5) (v := ?_) rfl (by as_aux_lemma => kernel_rfl) (by as_aux_lemma => kernel_rfl) (by as_aux_lemma => kernel_rfl) (fun _ _ _ h => h) (by rfl) hS ?_ ?_
                rotate_left
                · intro w' hw'; go_simp; with_reducible rfl
                go_simp
                refine H_one (i := 6) (by as_aux_lemma => kernel_rfl) rfl (by rfl) ?_
                go_simp
                refine HCALL.out.mono ?_
                rintro e9 w9 ⟨rfl, X9, Xd9, l9⟩
                have hS9 : Only (fun q => X' q ∨ Xd' q) W w9 := by
                  refine ⟨l9.below.os.trans HLW.out.below.os.symm, l9.below.tape.trans HLW.out.below.tape.symm, l9.below.output.trans HLW.out.below.output.symm, ?_, fun q hq hn => ?_⟩
                  · have := lt_of_heap (l9.kp ge _ ⟨HGEW.out.1, HGEW.out.2.1, HGEW.out.2.2.1⟩).1
                    have := HGEW.out.2.2.2
                    omega
                  · have e2 : W.heap[q]? = some (W.heap[q]'hq) := Array.getElem?_eq_getElem hq
                    exact (l9.kp q _ ⟨e2, fun hx => hn (.inl hx), fun hx => hn (.inr hx)⟩).1.trans e2.symm
                have HL9 := Lib.hid l9
                clear l9
                refine ⟨hS9, ?_⟩
                go_simp
                refine H_take (i := 7) (v := ?_) rfl (by as_aux_lemma => kernel_rfl) (by as_aux_lemma => kernel_rfl) (by as_aux_lemma => kernel_rfl) (fun _ _ _ h => h) (by rfl) hS9 ?_ ?_
                rotate_left
                · intro w' hw'; go_simp; with_reducible rfl
                go_simp
                refine wpAnyH_done (by as_aux_lemma => kernel_rfl) ?_ _
                clear q0 q1 q2 q3 r0 hS hS9
                go_wp2_with fail
                go_meet
                case rel => exact ⟨X9, Xd9, rfl, HL9.out⟩
              case rest =>
                obtain ⟨X9, Xd9, rfl, l9⟩ := hcut
                have l5 := HLW.out.stay l9
                have hB := layE_B (d := dj) (least := least) HBJ.out HEB.out
                have hU := layE_used (h := hj) (least := least) (e := ⟨xi, xt, xk, xb⟩) HLS.out.ds.well
                obtain ⟨t, ht⟩ : ∃ t, t = layE least hj dj ⟨xi, xt, xk, xb⟩ := ⟨_, rfl⟩
                rw [← ht] at l5 hB hU ⊢
                obtain ⟨r1, h1, d1⟩ := t
                have HT1 := Lib.hid ht
                have HL5 := Lib.hid l5
                have HB5 := Lib.hid hB
                have HU5 := Lib.hid hU
                simp only at HL5 HB5 HU5 ⊢
                clear l9 l5 hB hU ht hgz9 hgen cRw hxe hgRn
                by_cases hr0 : r1 = 0
                · subst hr0
                  have HNX : Hid (layEs least h d es = layEs least h1 d1 (es.drop (j + 1))) := Lib.hid (by rw [HLE.out, HDR.out]; exact layEs_ok HT1.out.symm)
                  go_wp2_with fail
                  go_roundg (gk - 1)
                  case measure => omega
                  case rel =>
                    have hsk := HSK.out
                    exact ⟨j + 1, h1, d1, X9, Xd9, by go_num, by omega, HNX.out, HL5.out, by
                      have := HB5.out
                      rw [hsk, ← Nat.add_assoc, ← Nat.add_assoc]
                      exact this, by have := HU5.out.2; have := HUJ.out; omega⟩
                · have q : (r1 != 0) = true := by simpa using hr0
                  have HNX : Hid (layEs least h d es = (r1, h1, d1)) := Lib.hid (by rw [HLE.out, HDR.out]; exact layEs_err hr0 HT1.out.symm)
                  go_wp2_with fail
                  go_ret
                  rw [HE.out, HNX.out]
                  exact ⟨rfl, X9, Xd9, HW5.out.stay HL5.out⟩
            · have hkk : ¬ (j : Int) < (N : Int) := by omega
              obtain rfl : j = N := by omega
              have HFI : Hid (layEs least h d es = (0, hj, dj)) := Lib.hid (by rw [HLE.out, HN.out, List.drop_length]; rfl)
              clear hle hls hbj huj hlt
              go_wp2_with fail
              go_ret
              rw [HE.out, HFI.out]
              exact ⟨rfl, X', Xd', HW5.out.stay HLS.out⟩
end Go.Proofs.YtamgjlegcegmeaaGreatDoor.M
