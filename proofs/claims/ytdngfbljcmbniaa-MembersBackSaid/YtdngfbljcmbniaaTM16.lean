/- Package members: a number laid among those that rise, and one taken out. Package members: the library's Insert of one number into a row of the call's own. Package members: a number laid among others; a configuration with lists of its own. Package members: which configurations are right. Package members: a change's step: a learner comes. The document's lists of numbers: looked for, put, dropped. -/
import Derived.Test.YtdngfbljcmbniaaTM14
import Derived.Test.YtdngfbljcmbniaaTM15
import Derived.OrdersHeld
import Derived.Deep.RegionHeld
/- Part: MmE. -/
namespace Go.Proofs.Ytdngfbljcmbniaa.M
open Go.RowKit

theorem fSearch : Try.laysSearch_ren.f 25 = 28 := by kernel_rfl
theorem fDelete : Try.laysDelete_ren.f 23 = 76 := by kernel_rfl
theorem fInsert : Try.laysInsert_ren.f 21 = 75 := by kernel_rfl
theorem tInsert : Try.laysInsert_ren.t 3 = 3 := by kernel_rfl

set_option maxRecDepth 20000 in
theorem Search_none (a : Option Addr) (c : Nat) (x : Int) (w : World) :
    Calls Try.prog 28 #[.slice a 0 c, .int .i64 x] w fun e w' => e = .returned (.tuple #[.int .i64 0, .bool false]) ∧ w' = w := by
  go_enter Try.func28, Try.ntmps28
  go_wp2_with fail
  go_loopw [7, 8] (fun i j wr => i = .int .i64 0 ∧ j = .int .i64 0 ∧ wr = w) (fun _ _ _ => 0)
  case atStart => exact ⟨rfl, rfl, rfl⟩
  case round =>
    obtain ⟨rfl, rfl, rfl⟩ := hrel
    go_wp2_with fail
    go_ret2
    exact ⟨rfl, rfl⟩

theorem Search_any (l : List Int) (x : Int) (F : Nat → Prop) (v : Value) (w : World) (hv : RepI w F l v) (hs : l.Pairwise (· ≤ ·)) (hl : l.length < 4611686018427387904) :
    Calls Try.prog 28 #[v, .int .i64 x] w fun e w' => e = .returned (.tuple #[.int .i64 ((l.countP (fun y => decide (y < x)) : Nat) : Int), .bool (yes (x ∈ l))]) ∧ ∃ q, w' = w.drewN q := by
  have hy : yes (x ∈ l) = l.contains x := yes_of (by simp)
  rw [hy]
  rcases hv with ⟨rfl, a, c, rfl, h1, h2⟩ | ⟨b, off, c, rfl, hb, h1, h2, h3⟩
  · exact (Search_none a c x w).mono fun e w' ⟨he, hw⟩ => ⟨he, 0, hw⟩
  · rw [← fSearch]
    have h := Any.slices_BinarySearch_int Try.laysSearch b off l.length c l x w (Nat.le_refl _) hl (fun j hj => by
      rw [List.getD_eq_getElem?_getD, List.getElem?_eq_getElem hj]
      exact (h3 j hj).1) (by rw [List.take_length]; exact hs)
    rw [List.take_length] at h
    exact h

/-- What is left behind a call that turned a row of the call's own. -/
def Turned (base : Nat) (l : List Int) (v v' : Value) (w w' : World) : Prop :=
  IR base l v' w' ∧ w.grownBy w' v.ownBlock ∧ (v'.ownBlock = v.ownBlock ∨ ∃ g, v'.ownBlock = some g ∧ w.heap.size ≤ g)

theorem Turned.after {base : Nat} {l : List Int} {v v' : Value} {w w1 w' : World} (hb : Below w.heap.size w w1) (h : Turned base l v v' w1 w') : Turned base l v v' w w' :=
  ⟨h.1, gb_trans (gb_other _ (grown_of_below hb)) h.2.1, by
    rcases h.2.2 with h | ⟨g, h, hg⟩
    · exact .inl h
    · exact .inr ⟨g, h, Nat.le_trans hb.size hg⟩⟩

theorem below_drewN (w : World) (q : Nat) : Below w.heap.size w (w.drewN q) := ⟨rfl, rfl, rfl, Nat.le_refl _, fun _ _ => rfl⟩

theorem rise_le {l : List Int} (h : l.Pairwise (· < ·)) : l.Pairwise (· ≤ ·) := h.imp fun h => Int.le_of_lt h

theorem Delete_any (base : Nat) (l : List Int) (x : Int) (v : Value) (w : World) (h : IR base l v w) (hm : x ∈ l) (hp : l.Pairwise (· < ·)) (k k1 : Int) (hk : k = ((l.countP (fun y => decide (y < x)) : Nat) : Int)) (hk1 : k1 = ((l.countP (fun y => decide (y < x)) + 1 : Nat) : Int)) :
    Calls Try.prog 76 #[v, .int .i64 k, .int .i64 k1] w fun e w' => ∃ v', e = .returned v' ∧ Turned base (dropN l x) v v' w w' := by
  subst hk hk1
  have hc := count_lt hm
  have hd := dropN_at hp hm
  have hdl := dropN_len hp hm
  obtain ⟨K, hK⟩ : ∃ K, K = l.countP (fun y => decide (y < x)) := ⟨_, rfl⟩
  rw [← hK] at hc hd ⊢
  rcases h.split with ⟨rfl, -⟩ | ⟨g, cap, cur, rfl, hb, hlt, hcur, h1, h2, h3, h4⟩
  · simp at hm
  · rw [← fDelete]
    have hcall := Any.slices_Delete_int Try.laysDelete g 0 cap K (K + 1) l w h.holds h1 h2 (by omega) (by omega)
    refine hcall.mono ?_
    rintro e w' ⟨rfl, q, rfl⟩
    refine ⟨_, rfl, ?_, grown_putRow _, .inl rfl⟩
    have hnew : (l.take K ++ l.drop (K + 1) ++ List.replicate (K + 1 - K) (0 : Int)).length = l.length := by
      simp only [List.length_append, List.length_take, List.length_drop, List.length_replicate]; omega
    refine IR.of_block (by omega) hb (heap_putRow _ hcur) (by omega) h2 (by simp [Sort.putCells, h3]) ?_ (h.sub fun y hy => (dropN_mem.1 hy).1)
    have ht := take_putCellsI cur (l.take K ++ l.drop (K + 1) ++ List.replicate (K + 1 - K) (0 : Int)) (by rw [hnew]; omega)
    have h5 := congrArg (List.take (dropN l x).length) ht
    rw [List.take_take, hnew, Nat.min_eq_left (by omega), ← List.map_take] at h5
    rw [h5, hd, List.take_append_of_le_length (by simp), List.take_of_length_le (Nat.le_refl _)]
    rfl

set_option maxRecDepth 20000 in
set_option maxHeartbeats 1600000 in
theorem without_any (base : Nat) (l : List Int) (x : Int) (v : Value) (w : World) (h : IR base l v w) (hp : l.Pairwise (· < ·)) (hl : l.length ≤ 1000000) :
    Calls Try.prog 61 #[v, .int .i64 x] w fun e w' => ∃ v', e = .returned v' ∧ Turned base (dropN l x) v v' w w' := by
  have hc : l.countP (fun y => decide (y < x)) ≤ l.length := List.countP_le_length
  have HS := Lib.hid (Search_any l x _ v w h.rep (rise_le hp) (by omega))
  have HD := Lib.hid (fun w1 (h1 : IR base l v w1) (hm : x ∈ l) => Delete_any base l x v w1 h1 hm hp)
  have H := Lib.hid h
  obtain ⟨a, cap, hv⟩ := h.slice
  obtain ⟨n, hn⟩ : ∃ n, n = l.length := ⟨_, rfl⟩
  obtain ⟨K, hK⟩ : ∃ K, K = l.countP (fun y => decide (y < x)) := ⟨_, rfl⟩
  rw [← hK, ← hn] at hc
  rw [← hn] at hv hl
  rw [← hK] at HS HD
  subst hv
  clear h hp hn hK
  go_enter Try.func61, Try.ntmps61
  go_wp2_with fail
  refine HS.out.mono ?_
  rintro e w1 ⟨rfl, q, rfl⟩
  by_cases hm : x ∈ l
  · rw [yes_t hm]
    have HC := HD.out _ (H.out.next (below_drewN w q)) hm _ _ rfl rfl
    have HCALL := Lib.hid HC
    have HB : Hid (Below w.heap.size w (w.drewN q)) := Lib.hid (below_drewN w q)
    obtain ⟨W, hW⟩ : ∃ W, W = w.drewN q := ⟨_, rfl⟩
    rw [← hW] at HCALL HB ⊢
    have hk1 : IntKind.i64.wrap ((K : Int) + 1) = ((K + 1 : Nat) : Int) := by rw [IntWalk.i64_in _ (by omega)]; omega
    clear HC hm hW HS HD
    go_wp2_with fail
    refine HCALL.out.mono ?_
    rintro e w2 ⟨v', rfl, ht⟩
    have HT := Lib.hid ht
    clear ht
    go_wp2_with fail
    go_ret
    exact ⟨_, rfl, HT.out.after HB.out⟩
  · rw [yes_f hm]
    have HE : Hid (dropN l x = l) := Lib.hid (dropN_none hm)
    go_wp2_with fail
    go_ret
    exact ⟨_, rfl, by rw [HE.out]; exact ⟨H.out.next (below_drewN w q), gb_other _ (grown_of_below (below_drewN w q)), .inl rfl⟩⟩
end Go.Proofs.Ytdngfbljcmbniaa.M

/- Part: MmF. -/
namespace Go.Proofs.Ytdngfbljcmbniaa.M
open Go.RowKit

theorem cells_of_row {w : World} {g cap : Nat} {cur : Array Value} {e : TypeId} {l : List Int} (hcur : w.heap[g]? = some (.cells cur e (0, 0))) (h4 : cur.toList.take l.length = l.map intV) :
    ∀ j u, (l.map intV)[j]? = some u → w.cell? ⟨g, 0 + j, none⟩ = some u := by
  intro j u hj
  rw [Nat.zero_add, cell_of_row w g j _ _ _ hcur]
  rw [← h4, List.getElem?_take] at hj
  split at hj
  · rw [← Array.getElem?_toList]; exact hj
  · cases hj

theorem some_of_row {w : World} {g n : Nat} {cur : Array Value} {e : TypeId} (hcur : w.heap[g]? = some (.cells cur e (0, 0))) (hn : n < cur.size) : (w.cell? ⟨g, n, none⟩).isSome = true := by
  rw [cell_of_row w g n _ _ _ hcur, Array.getElem?_eq_getElem hn]; rfl

theorem one_map (l : List Int) : ∀ u ∈ l.map intV, u.oneCell' = true := by
  intro u hu
  obtain ⟨z, -, rfl⟩ := List.mem_map.1 hu
  rfl

theorem grown_drew (w : World) (row : Option Nat) : w.grownBy w.drew row := ⟨rfl, rfl, rfl, Nat.le_refl _, fun _ _ _ => rfl⟩

theorem ahead_of {l : List Value} {n : Nat} {a b : List Value} (h : l = a ++ b) (hn : n = a.length) : l.take n = a := by
  subst h hn; simp

theorem gb_cells {w w1 : World} {row : Option Nat} {g o : Nat} {vs : List Value} (h : w.grownBy w1 row) (hg : w.heap.size ≤ g) : w.grownBy (w1.setCells g o vs) row := by
  have h2 := grown_setCells (g := g) vs o w1
  exact ⟨h2.os.trans h.os, h2.tape.trans h.tape, h2.output.trans h.output, Nat.le_trans h.size h2.size, fun k hk hn => (h2.block k (Nat.lt_of_lt_of_le hk h.size) (by intro e; cases e; omega)).trans (h.block k hk hn)⟩

theorem Insert_any (base : Nat) (l : List Int) (x : Int) (v : Value) (gv K : Nat) (w : World) (h : IR base l v w) (hbase : base ≤ w.heap.size) (hvb : w.heap[gv]? = some (.cells #[.int .i64 x] 3 (0, 0))) (hne : v.ownBlock ≠ some gv)
    (hx : -9223372036854775808 ≤ x ∧ x ≤ 9223372036854775807) (hK : K ≤ l.length) (hl : l.length ≤ 1000000) :
    Calls Try.prog 75 #[v, .int .i64 (K : Int), .slice (some ⟨gv, 0, none⟩) 1 1] w fun e w' => ∃ v', e = .returned v' ∧ Turned base (l.take K ++ x :: l.drop K) v v' w w' := by
  have hvs : ∀ j u, [intV x][j]? = some u → w.cell? ⟨gv, 0 + j, none⟩ = some u := fun j u hj => by
    have := cell_of_row w gv j _ _ _ hvb
    rw [Nat.zero_add, this]
    simpa [intV] using hj
  have h1v : ∀ u ∈ [intV x], u.oneCell' = true := fun u hu => by simp at hu; subst hu; rfl
  have hrng : In64 (l.take K ++ x :: l.drop K) := fun y hy => by
    rcases List.mem_append.1 hy with hy | hy
    · exact h.rng y (List.mem_of_mem_take hy)
    · rcases List.mem_cons.1 hy with rfl | hy
      · exact hx
      · exact h.rng y (List.mem_of_mem_drop hy)
  have hlen : (l.take K ++ x :: l.drop K).length = l.length + 1 := by simp; omega
  rw [← fInsert]
  rcases h.split with ⟨rfl, rfl⟩ | ⟨g, cap, cur, rfl, hb, hlt, hcur, h1, h2, h3, h4⟩
  · obtain rfl : K = 0 := by simpa using hK
    refine (Any2.slices_Insert_int_end_grow Try.laysInsert none 0 0 gv 0 1 1 [] [intV x] w (by omega) (by omega) (by omega) (by omega) rfl rfl (fun _ => rfl) (fun a h => by cases h) hvs h1v).mono ?_
    rintro e w' ⟨rfl, rfl⟩
    refine ⟨_, rfl, ?_, ⟨rfl, rfl, rfl, by simp, fun k hk _ => heap_alloc_old w.drew _ hk⟩, .inr ⟨_, rfl, Nat.le_refl _⟩⟩
    have g1 := grownCap_ge w (0 + 1) 0 (Try.laysInsert_ren.t 3)
    have g2 := grownCap_le_maxLen w (0 + 1) 0 (Try.laysInsert_ren.t 3) (by unfold maxLen; omega)
    unfold maxLen at g2
    obtain ⟨G, hG⟩ : ∃ G, G = grownCap w (0 + 1) 0 (Try.laysInsert_ren.t 3) := ⟨_, rfl⟩
    rw [← hG] at g1 g2 ⊢
    refine IR.of_block hlen.symm hbase (heap_alloc_new w.drew _) (by rw [hlen]; exact g1) (by omega) ?_ ?_ hrng
    · simp [size_zeroCells, Value.cells]; omega
    · exact ahead_of (b := (Builtin.zeroCells (Value.int .i64 0).cells (G - (0 + 1))).toList) (by simp [intV]) (by simp)
  have hcs := cells_of_row (cap := cap) hcur h4
  have hml : (l.map intV).length = l.length := by simp
  have hfz : ∀ j, w.frozen? ⟨g, j, none⟩ = false := fun j => frozen_of_row w g j _ _ hcur
  by_cases hroom : l.length + 1 ≤ cap
  · by_cases hend : K = l.length
    · subst hend
      refine (Any2.slices_Insert_int_end_room Try.laysInsert g 0 l.length cap gv 0 1 1 [intV x] w (by omega) hroom h2 rfl (fun j hj => some_of_row hcur (by omega)) (fun j hj => hfz _) hvs h1v).mono ?_
      rintro e w' ⟨rfl, rfl⟩
      obtain ⟨cur', e1, e2, e3⟩ := heap_setCells [intV x] (0 + l.length) w cur hcur (by simp; omega)
      refine ⟨_, rfl, ?_, grown_setCells _ _ _, .inl rfl⟩
      refine IR.of_block hlen.symm hb e1 (by rw [hlen]; omega) h2 (by omega) ?_ hrng
      refine ahead_of (b := cur.toList.drop (0 + l.length + 1)) ?_ (by simp)
      rw [e3, Nat.zero_add, h4]
      simp
    · have hi : K < l.length := by omega
      have hgv : gv ≠ g := fun e => hne (by rw [e]; rfl)
      refine (Any2.slices_Insert_int_shift Try.laysInsert g 0 l.length cap K gv 0 1 1 (l.map intV) [intV x] w hi (by omega) hroom h2 hgv hml rfl hcs (fun j hj => some_of_row hcur (by omega)) (fun j hj => hfz _) hvs (one_map l) h1v
        3 3 1 cap (by simp [World.shape?, hvb]) (by simp [World.shape?, hcur, h3]) (by omega) (frozen_of_row w gv 0 _ _ hvb) (frozen_of_row w gv 1 _ _ hvb)).mono ?_
      rintro e w' ⟨rfl, rfl⟩
      obtain ⟨cur1, a1, a2, a3⟩ := heap_setCells ((l.map intV).drop K) (0 + (K + 1)) w.drew cur hcur (by simp; omega)
      obtain ⟨cur2, b1, b2, b3⟩ := heap_setCells [intV x] (0 + K) _ cur1 a1 (by simp; omega)
      refine ⟨_, rfl, ?_, gb_trans (gb_trans (grown_drew w _) (grown_setCells _ _ _)) (grown_setCells _ _ _), .inl rfl⟩
      refine IR.of_block hlen.symm hb b1 (by rw [hlen]; omega) h2 (by omega) ?_ hrng
      refine ahead_of (b := cur.toList.drop (l.length + 1)) ?_ (by simp)
      have t1 : (cur.toList.take (K + 1)).length = K + 1 := by simp; omega
      have t2 : cur.toList.take K = (l.take K).map intV := by
        have := congrArg (List.take K) h4
        rw [List.take_take, Nat.min_eq_left hK, ← List.map_take] at this
        exact this
      have t3 : (l.map intV).drop K = (l.drop K).map intV := by simp
      rw [b3, a3]
      simp only [Nat.zero_add, List.length_singleton]
      rw [List.append_assoc (cur.toList.take (K + 1)), List.take_append_of_le_length (by omega), List.take_take, Nat.min_eq_left (by omega), t2, List.drop_append_of_le_length (by omega), List.drop_of_length_le (l := cur.toList.take (K + 1)) (by omega), List.nil_append, t3]
      simp only [List.map_append, List.map_cons, List.append_assoc, List.singleton_append, List.cons_append, List.nil_append, List.length_map, List.length_drop]
      rw [show K + 1 + (l.length - K) = l.length + 1 by omega]
  · by_cases hend : K = l.length
    · subst hend
      refine (Any2.slices_Insert_int_end_grow Try.laysInsert (some ⟨g, 0, none⟩) l.length cap gv 0 1 1 (l.map intV) [intV x] w (by omega) h1 (by omega) (by omega) hml rfl (fun h => by cases h) (fun a ha j u hj => by
        cases ha; rw [Addr.add_lit]; exact hcs j u hj) hvs h1v).mono ?_
      rintro e w' ⟨rfl, rfl⟩
      refine ⟨_, rfl, ?_, ⟨rfl, rfl, rfl, by simp, fun k hk _ => heap_alloc_old w.drew _ hk⟩, .inr ⟨_, rfl, Nat.le_refl _⟩⟩
      have g1 := grownCap_ge w (l.length + 1) cap (Try.laysInsert_ren.t 3)
      have g2 := grownCap_le_maxLen w (l.length + 1) cap (Try.laysInsert_ren.t 3) (by unfold maxLen; omega)
      unfold maxLen at g2
      refine IR.of_block hlen.symm hbase (heap_alloc_new w.drew _) (by rw [hlen]; exact g1) (by omega) ?_ ?_ hrng
      · simp [size_zeroCells, Value.cells]; omega
      · exact ahead_of (b := (Builtin.zeroCells (Value.int .i64 0).cells (grownCap w (l.length + 1) cap (Try.laysInsert_ren.t 3) - (l.length + 1))).toList) (by simp) (by simp)
    · have hi : K < l.length := by omega
      refine (Any2.slices_Insert_int_grow Try.laysInsert g 0 l.length cap K gv 0 1 1 (l.map intV) [intV x] w hi (by omega) h1 (by omega) (by omega) hml rfl hcs hvs (one_map l) h1v).mono ?_
      rintro e w' ⟨rfl, rfl⟩
      have g1 := grownCap_ge w (l.length + 1) cap (Try.laysInsert_ren.t 3)
      have g2 := grownCap_le_maxLen w (l.length + 1) cap (Try.laysInsert_ren.t 3) (by unfold maxLen; omega)
      unfold maxLen at g2
      obtain ⟨cur0, hc0⟩ : ∃ cur0, cur0 = (((l.map intV).take K).toArray ++ Builtin.zeroCells (Value.int .i64 0).cells (l.length + 1 - K) ++ Builtin.zeroCells (Value.int .i64 0).cells (grownCap w (l.length + 1) cap (Try.laysInsert_ren.t 3) - (l.length + 1)) : Array Value) := ⟨_, rfl⟩
      have hs0 : cur0.size = grownCap w (l.length + 1) cap (Try.laysInsert_ren.t 3) := by
        rw [hc0]; simp [size_zeroCells, Value.cells]; omega
      have ht0 : cur0.toList.take K = (l.take K).map intV := by
        rw [hc0]
        refine ahead_of (b := (Builtin.zeroCells (Value.int .i64 0).cells (l.length + 1 - K)).toList ++ (Builtin.zeroCells (Value.int .i64 0).cells (grownCap w (l.length + 1) cap (Try.laysInsert_ren.t 3) - (l.length + 1))).toList) (by simp) (by simp; omega)
      rw [← hc0]
      have a0 : (w.alloc (.cells cur0 (Try.laysInsert_ren.t 3))).drew.heap[w.heap.size]? = some (.cells cur0 3 (0, 0)) := heap_alloc_new w _
      obtain ⟨cur1, a1, a2, a3⟩ := heap_setCells [intV x] K _ cur0 a0 (by simp; omega)
      obtain ⟨cur2, b1, b2, b3⟩ := heap_setCells ((l.map intV).drop K) (K + 1) _ cur1 (show ((World.setCells (w.alloc (.cells cur0 (Try.laysInsert_ren.t 3))).drew w.heap.size K [intV x]).drew).heap[w.heap.size]? = _ from a1) (by simp; omega)
      refine ⟨_, rfl, ?_, ?_, .inr ⟨_, rfl, Nat.le_refl _⟩⟩
      · refine IR.of_block hlen.symm hbase b1 (by rw [hlen]; exact g1) (by omega) (by omega) ?_ hrng
        refine ahead_of (b := cur1.toList.drop (K + 1 + (l.length - K))) ?_ (by simp)
        have t1 : (cur0.toList.take K).length = K := by simp; omega
        rw [b3, a3]
        simp only [List.length_singleton]
        rw [List.take_append_of_le_length (by simp; omega), List.take_of_length_le (by simp; omega), ht0]
        simp [a3]
      · exact gb_cells (gb_drew (gb_cells (gb_drew (gb_alloc _ (gb_refl w _))) (Nat.le_refl _))) (Nat.le_refl _)
end Go.Proofs.Ytdngfbljcmbniaa.M

/- Part: MmG. -/
namespace Go.Proofs.Ytdngfbljcmbniaa.M
open Go.RowKit

set_option maxRecDepth 20000 in
set_option maxHeartbeats 1600000 in
theorem with_any (base : Nat) (l : List Int) (x : Int) (v : Value) (w : World) (h : IR base l v w) (hbase : base ≤ w.heap.size) (hp : l.Pairwise (· < ·)) (hm : x ∉ l) (hx : okN x) (hl : l.length ≤ 1000000) :
    Calls Try.prog 59 #[v, .int .i64 x] w fun e w' => ∃ v', e = .returned v' ∧ Turned base (putN l x) v v' w w' := by
  have hc : l.countP (fun y => decide (y < x)) ≤ l.length := List.countP_le_length
  have HS := Lib.hid (Search_any l x _ v w h.rep (rise_le hp) (by omega))
  have HI := Lib.hid (fun (w1 : World) (gv : Nat) (h1 : IR base l v w1) (hb : base ≤ w1.heap.size) (hvb : w1.heap[gv]? = some (.cells #[.int .i64 x] 3 (0, 0))) (hne : v.ownBlock ≠ some gv) =>
    Insert_any base l x v gv (l.countP (fun y => decide (y < x))) w1 h1 hb hvb hne ⟨by have := hx.1; omega, by have := hx.2; omega⟩ hc hl)
  rw [← putN_at hp hm] at HI
  have H := Lib.hid h
  have HBA := Lib.hid hbase
  obtain ⟨a, cap, hv⟩ := h.slice
  obtain ⟨n, hn⟩ : ∃ n, n = l.length := ⟨_, rfl⟩
  obtain ⟨K, hK⟩ : ∃ K, K = l.countP (fun y => decide (y < x)) := ⟨_, rfl⟩
  rw [← hn] at hv hl
  rw [← hK] at HS HI
  subst hv
  clear h hp hn hK hc hbase
  go_enter Try.func59, Try.ntmps59
  go_wp2_with fail
  refine HS.out.mono ?_
  rintro e w1 ⟨rfl, q, rfl⟩
  have HB : Hid (Below w.heap.size w (w.drewN q)) := Lib.hid (below_drewN w q)
  obtain ⟨W, hW⟩ : ∃ W, W = w.drewN q := ⟨_, rfl⟩
  have HSZ : Hid (W.heap.size = w.heap.size) := Lib.hid (by rw [hW]; rfl)
  rw [← hW] at HB ⊢
  have HCALL := Lib.hid (HI.out (W.alloc (.cells #[.int .i64 x] 3)) W.heap.size (H.out.next (HB.out.alloc HB.out.size _)) (by have := HBA.out; have := HB.out.size; simp; omega) (heap_alloc_new W _) (fun e => by
    have := (H.out.block_lt e).2
    rw [HSZ.out] at this
    exact absurd this (Nat.lt_irrefl _)))
  clear hW hm hx HI HS
  go_wp2_with fail
  refine HCALL.out.mono ?_
  rintro e w2 ⟨v', rfl, ht⟩
  have HT := Lib.hid ht
  clear ht
  go_wp2_with fail
  go_ret
  exact ⟨_, rfl, (HT.out.after (below_alloc W _)).after HB.out⟩

theorem RepI.yields {w : World} {F : Nat → Prop} {l : List Int} {v : Value} (h : RepI w F l v) : Yields w v l.length 1 (l.map intV) := by
  refine ⟨by simp, one_map l, ?_⟩
  rcases h with ⟨rfl, a, c, rfl, _, ha⟩ | ⟨b, off, c, rfl, _, h1, h2, hc⟩
  · cases a with
    | none => rw [ha rfl]; exact .inl ⟨rfl, rfl⟩
    | some a => exact .inr ⟨a, c, rfl, fun j u hj => by simp at hj⟩
  · refine .inr ⟨_, c, rfl, fun j u hj => ?_⟩
    rw [List.getElem?_map] at hj
    have hj2 : j < l.length := by
      rcases Nat.lt_or_ge j l.length with h3 | h3
      · exact h3
      · rw [List.getElem?_eq_none h3] at hj; simp at hj
    rw [List.getElem?_eq_getElem hj2] at hj
    have := (hc j hj2).1
    simp at hj
    rw [← hj, intV, ← this]
    cases j <;> simp [Addr.add]

/-- An append to a row of ints of the call's own. -/
theorem wpList_ir_append {w : World} {ops : Array Oper} {rest : List Oper} {o : Oper} {a : Act} {Q : Exit → Act → World → Prop} (hgd : o.guard = none) (s y : Operand)
    (ho : o.op = .call { callee := .builtin .append, args := #[s, y], argTypes := #[23, 23] }) (_hty : o.type = 23)
    {base : Nat} {L L2 : List Int} {v x : Value} {F : Nat → Prop} (hs : a.eval s = v) (hown : IR base L v w) (hbase : base ≤ w.heap.size) (hy : a.eval y = x) (hx : RepI w F L2 x) (hl : L.length + L2.length ≤ 17592186044416)
    (h : ∀ v' w', Turned base (L ++ L2) v v' w w' → wpList Try.prog ops Q rest (a.put o.dst v') w') : wpList Try.prog ops Q (o :: rest) a w := by
  obtain ⟨ib, hib, hib0, hib1, hib2⟩ := info_parts infoInt
  exact wpList_append_any w hgd s y 23 ho base 3 ib (.int .i64 0) 1 8 Try.underlying23 hib hib0 hib1 hib2 rfl (by decide) v L.length (L.map intV) hs hown.own x hy L2.length (L2.map intV) hx.yields
    (by unfold maxLen; omega) (by omega) hbase fun v' w' ha => h v' w' ⟨⟨by rw [List.map_append, List.length_append]; exact ha.1, fun z hz => by
      rcases List.mem_append.1 hz with hz | hz
      · exact hown.rng z hz
      · exact hx.rng z hz⟩, ha.2.1, by
      rcases ha.2.2 with h | h
      · exact .inl h
      · exact .inr ⟨_, h, Nat.le_refl _⟩⟩

theorem IR.set {base : Nat} {l : List Int} {v u : Value} {w : World} {g j : Nat} (h : IR base l v w) (hn : v.ownBlock ≠ some g) : IR base l v (w.setCell ⟨g, j, none⟩ u) :=
  h.kept (gb_set j u (gb_refl w (some g))) fun e => absurd e hn

/-- A configuration's two lists, rows of the call's own, apart from each other. -/
structure Two (base : Nat) (c : Cf) (v l : Value) (w : World) : Prop where
  rv : IR base c.v v w
  rl : IR base c.l l w
  apart : v.ownBlock = l.ownBlock → v.ownBlock = none

theorem Two.next {base : Nat} {c : Cf} {v l : Value} {w w' : World} (h : Two base c v l w) (hb : Below w.heap.size w w') : Two base c v l w' := ⟨h.rv.next hb, h.rl.next hb, h.apart⟩

theorem ownBlock_nil : Value.ownBlock (.slice none 0 0) = none := rfl

theorem below_of_none {w w' : World} (h : w.grownBy w' none) : Below w.heap.size w w' := ⟨h.os, h.tape, h.output, h.size, fun k hk => h.block k hk (by simp)⟩

theorem block2' {w : World} {g : Nat} {x y : Value} {t : TypeId} (h : w.heap[g]? = some (.cells #[x, y] t)) :
    w.cell? ⟨g, 0, none⟩ = some x ∧ w.cell? ⟨g, 1, none⟩ = some y ∧ w.frozen? ⟨g, 0, none⟩ = false ∧ w.frozen? ⟨g, 1, none⟩ = false ∧ g < w.heap.size :=
  ⟨cell_of_row w g 0 _ t _ h, cell_of_row w g 1 _ t _ h, frozen_of_row w g 0 _ t h, frozen_of_row w g 1 _ t h, lt_of_heap h⟩

theorem heap_set2 {w : World} {g : Nat} {x y z : Value} {t : TypeId} (h : w.heap[g]? = some (.cells #[x, y] t)) :
    (w.setCell ⟨g, 0, none⟩ z).heap[g]? = some (.cells #[z, y] t) ∧ (w.setCell ⟨g, 1, none⟩ z).heap[g]? = some (.cells #[x, z] t) := by
  constructor <;> simp [World.setCell, Array.getElem?_modify, h]

set_option maxRecDepth 20000 in
set_option maxHeartbeats 1600000 in
theorem copied_any (c : Cf) (F : Nat → Prop) (vv lv : Value) (w : World) (hv : RepI w F c.v vv) (hl : RepI w F c.l lv) (hF : ∀ k, F k → k < w.heap.size) (h1 : c.v.length ≤ 1000000) (h2 : c.l.length ≤ 1000000) :
    Calls Try.prog 24 #[.agg #[vv, lv]] w fun e w' => ∃ v l, e = .returned (.agg #[v, l]) ∧ Two w.heap.size c v l w' ∧ Below w.heap.size w w' := by
  obtain ⟨a, k, hvv, -⟩ := hv.slice
  obtain ⟨a', k', hlv, -⟩ := hl.slice
  obtain ⟨n, hn⟩ : ∃ n, n = c.v.length := ⟨_, rfl⟩
  obtain ⟨m, hm⟩ : ∃ m, m = c.l.length := ⟨_, rfl⟩
  have HV := Lib.hid hv
  have HL := Lib.hid hl
  have HF := Lib.hid hF
  have H1 := Lib.hid h1
  have H2 := Lib.hid h2
  rw [← hn] at hvv
  rw [← hm] at hlv
  subst hvv hlv
  have HBB : Hid (∀ A B, Below w.heap.size w ((w.alloc A).alloc B)) := Lib.hid fun A B => ((Below.refl _ w).alloc (Nat.le_refl _) _).alloc (by simp) _
  clear hv hl hF h1 h2 hn hm
  go_enter Try.func24, Try.ntmps24
  go_wp2_with (at_builtin; refine wpList_ir_append rfl (.const (.slice none 0 0)) (.tmp 4) rfl rfl (base := w.heap.size) (L := []) (L2 := c.v) rfl (IR.bare _ _) (by simp; omega) rfl (HV.out.below HF.out (HBB.out _ _)) (by have := H1.out; simp; omega) ?_)
  intro v1 w1 ht
  have hW := HBB.out (.cells #[.slice a n k, .slice a' m k'] 25) (.cells #[.slice none 0 0, .slice none 0 0] 25)
  have hb1 := below_of_none ht.2.1
  have HB1 : Hid (Below w.heap.size w w1) := Lib.hid (hW.trans (hb1.mono hW.size))
  have hA1 : w1.heap[w.heap.size]? = some (.cells #[.slice a n k, .slice a' m k'] 25) := old_below (old_alloc (heap_alloc_new w _)) hb1
  have hC1 : w1.heap[w.heap.size + 1]? = some (.cells #[.slice none 0 0, .slice none 0 0] 25) := old_below (heap_new _ _ _ (by simp)) hb1
  obtain ⟨e0, e1, z0, z1, hgz⟩ := block2' hA1
  obtain ⟨f0, f1, y0, y1, hgz1⟩ := block2' hC1
  obtain ⟨a1, k1, hv1⟩ := ht.1.slice
  obtain ⟨n1, hn1⟩ : ∃ n1, n1 = c.v.length := ⟨_, rfl⟩
  rw [← hn1] at hv1
  subst hv1
  have HA1 := Lib.hid hA1
  have HC1 := Lib.hid hC1
  have HT1 := Lib.hid ht
  clear hW hb1 hA1 hC1 ht hn1
  go_wp2_with (at_builtin; refine wpList_ir_append rfl (.const (.slice none 0 0)) (.tmp 8) rfl rfl (base := w.heap.size) (L := []) (L2 := c.l) rfl (IR.bare _ _) (by have := HB1.out.size; simp; omega) rfl (HL.out.below HF.out (HB1.out.setCell (Nat.le_refl _) _)) (by have := H2.out; simp; omega) ?_)
  intro v2 w2 ht
  have hb2 := below_of_none ht.2.1
  obtain ⟨hA2, -⟩ := heap_set2 (z := .slice a1 n1 k1) HA1.out
  have hA3 := old_below hA2 hb2
  have hC3 := old_below (old_set (a := ⟨w.heap.size, 0, none⟩) (v := .slice a1 n1 k1) HC1.out (by simp)) hb2
  obtain ⟨e0, e1, z0, z1, hgz⟩ := block2' hA3
  obtain ⟨f0, f1, y0, y1, hgz1⟩ := block2' hC3
  obtain ⟨a2, k2, hv2⟩ := ht.1.slice
  obtain ⟨n2, hn2⟩ : ∃ n2, n2 = c.l.length := ⟨_, rfl⟩
  rw [← hn2] at hv2
  subst hv2
  have HA3 := Lib.hid hA3
  have HC3 := Lib.hid hC3
  have HB2 : Hid (Below w.heap.size w w2) := Lib.hid ((HB1.out.setCell (Nat.le_refl _) _).trans (hb2.mono (by have := HB1.out.size; simpa using this)))
  have HT2 := Lib.hid ht
  clear hb2 hA2 hA3 hC3 ht hn2
  go_wp2_with fail
  have HD : ∀ W : World, W.heap[w.heap.size + 1]? = some (.cells #[.slice none 0 0, .slice none 0 0] 25) → ((W.setCell ⟨w.heap.size + 1, 0, none⟩ (.slice a1 n1 k1)).setCell ⟨w.heap.size + 1, 1, none⟩ (.slice a2 n2 k2)).heap[w.heap.size + 1]? = some (.cells #[.slice a1 n1 k1, .slice a2 n2 k2] 25) := fun W h => (heap_set2 (heap_set2 h).1).2
  refine bodyPost_ret (v := .agg #[.slice a1 n1 k1, .slice a2 n2 k2]) (results_cell_row (P := Try.prog) Try.results24 _ _ (w.heap.size + 1) 25 _ (0, 0) _ rfl (HD _ (old_set HC3.out (by simp))) Try.underlying25 rfl (by kernel_rfl)) rfl ?_
  have r1 := HT1.out
  have r2 := HT2.out
  have n1b : ∀ b, Value.ownBlock (.slice a1 n1 k1) = some b → w.heap.size + 2 ≤ b ∧ b < w1.heap.size := fun b hb => by
    refine ⟨?_, (r1.1.block_lt hb).2⟩
    rcases r1.2.2 with h | ⟨g, h, hg⟩
    · rw [hb] at h; cases h
    · rw [hb] at h
      cases h
      simpa using hg
  have n2b : ∀ b, Value.ownBlock (.slice a2 n2 k2) = some b → w1.heap.size ≤ b := fun b hb => by
    rcases r2.2.2 with h | ⟨g, h, hg⟩
    · rw [hb] at h; cases h
    · rw [hb] at h
      cases h
      simpa using hg
  have hw1 : w.heap.size + 2 ≤ w1.heap.size := by have := r1.2.1.size; simpa using this
  have i1 : IR w.heap.size c.v (.slice a1 n1 k1) w2 := (r1.1.set (fun e => by have := n1b _ e; omega)).next (below_of_none r2.2.1)
  refine ⟨_, _, rfl, ⟨?_, ?_, fun e => ?_⟩, ((HB2.out.setCell (Nat.le_refl _) _).setCell (by simp) _).setCell (by simp) _⟩
  · exact ((i1.set (fun e => by have := n1b _ e; omega)).set (fun e => by have := n1b _ e; omega)).set (fun e => by have := n1b _ e; omega)
  · exact ((r2.1.set (fun e => by have := n2b _ e; omega)).set (fun e => by have := n2b _ e; omega)).set (fun e => by have := n2b _ e; omega)
  · cases h : Value.ownBlock (.slice a1 n1 k1) with
    | none => rfl
    | some b =>
      have h1 := n1b b h
      have h2 := n2b b (by rw [← e]; exact h)
      omega
end Go.Proofs.Ytdngfbljcmbniaa.M

/- Part: MmC. -/
namespace Go.Proofs.Ytdngfbljcmbniaa.M
open Go.RowKit

/-- A configuration's block. -/
def CfAt (w : World) (F : Nat → Prop) (g : Nat) (c : Cf) (vv lv : Value) : Prop :=
  w.heap[g]? = some (.cells #[vv, lv] 25) ∧ RepI w F c.v vv ∧ RepI w F c.l lv ∧ (∀ k, F k → k < w.heap.size)

theorem CfAt.next {w w' : World} {F : Nat → Prop} {g : Nat} {c : Cf} {vv lv : Value} (h : CfAt w F g c vv lv) (hb : Below w.heap.size w w') : CfAt w' F g c vv lv :=
  ⟨old_below h.1 hb, h.2.1.below h.2.2.2 hb, h.2.2.1.below h.2.2.2 hb, fun k hk => Nat.lt_of_lt_of_le (h.2.2.2 k hk) hb.size⟩

theorem CfAt.cells {w : World} {F : Nat → Prop} {g : Nat} {c : Cf} {vv lv : Value} (h : CfAt w F g c vv lv) : w.cell? ⟨g, 0, none⟩ = some vv ∧ w.cell? ⟨g, 1, none⟩ = some lv ∧ g < w.heap.size := by
  have h0 := fun j => cell_of_row w g j _ _ _ h.1
  exact ⟨h0 0, h0 1, lt_of_heap h.1⟩

set_option maxRecDepth 20000 in
theorem both_any (c : Cf) (x : Int) (F : Nat → Prop) (g : Nat) (vv lv : Value) (w : World) (h : CfAt w F g c vv lv) :
    Calls Try.prog 32 #[.int .i64 x, .pointer (some ⟨g, 0, none⟩)] w fun e w' => e = .returned (.bool (yes (x ∈ c.v))) ∧ Below w.heap.size w w' := by
  obtain ⟨a, k, hvv, -⟩ := h.2.1.slice
  obtain ⟨a', k', hlv, -⟩ := h.2.2.1.slice
  obtain ⟨e0, e1, hg⟩ := h.cells
  have HC := Votes_any c x F vv lv w h.2.1 h.2.2.1 h.2.2.2
  subst hvv hlv
  have HCALL := Lib.hid HC
  clear h HC
  go_enter Try.func32, Try.ntmps32
  go_wp2_with fail
  refine HCALL.out.mono ?_
  rintro e w' ⟨rfl, hb⟩
  go_wp2_with fail
  go_ret
  exact ⟨rfl, hb⟩

set_option maxRecDepth 20000 in
set_option maxHeartbeats 1600000 in
theorem IndexBoth_any (c : Cf) (l : List Int) (F G : Nat → Prop) (g : Nat) (v vv lv : Value) (w : World) (h : CfAt w F g c vv lv) (hv : RepI w G l v) (hG : ∀ k, G k → k < w.heap.size) :
    Calls Try.prog 54 #[v, .func (.func 32) #[] #[.pointer (some ⟨g, 0, none⟩)]] w fun e w' => ∃ z : Int, e = .returned (.int .i64 z) ∧ (z ≥ 0 ↔ ∃ x ∈ l, x ∈ c.v) ∧ Below w.heap.size w w' := by
  obtain ⟨va, vc, rfl, hl⟩ := hv.slice
  obtain ⟨n, hn⟩ : ∃ n, n = l.length := ⟨_, rfl⟩
  have HV := Lib.hid hv
  have HG := Lib.hid hG
  have HH := Lib.hid h
  have HN := Lib.hid hn
  rw [← hn] at hl ⊢
  clear hv hG h hn
  go_enter Try.func54, Try.ntmps54
  go_wp2_with fail
  obtain ⟨w0, hw0⟩ : ∃ w0 : World, w0 = w := ⟨_, rfl⟩
  subst hw0
  go_loopg [5, 8] n (fun gk _ i wr => ∃ k : Nat, i = .int .i64 (k : Int) ∧ k + gk = n ∧ Hid (Below w0.heap.size w0 wr) ∧ Hid (∀ x ∈ l.take k, x ∉ c.v))
  case atStart => exact ⟨0, rfl, by omega, Lib.hid (Below.refl _ _), Lib.hid (by simp)⟩
  case round =>
    obtain ⟨k, rfl, hkg, HBW, HK⟩ := hrel
    by_cases hlt : k < n
    · have hkk : (k : Int) < (n : Int) := by omega
      have hlt2 : k < l.length := by rw [← HN.out]; exact hlt
      obtain ⟨b, off, rfl, -, e0, -, -⟩ := (HV.out.below HG.out HBW.out).elem k hlt2
      obtain ⟨x, hx⟩ : ∃ x, x = l[k] := ⟨_, rfl⟩
      rw [← hx] at e0
      have HT : Hid (l.take (k + 1) = l.take k ++ [x]) := Lib.hid (by rw [hx]; exact take_snoc hlt2)
      have HM : Hid (x ∈ l) := Lib.hid (by rw [hx]; exact List.getElem_mem hlt2)
      clear hx hlt2
      go_wp2_with fail
      refine (both_any c x F g vv lv wr (HH.out.next HBW.out)).mono ?_
      rintro e w1 ⟨rfl, hb1⟩
      have HB1 : Hid (Below w0.heap.size w0 w1) := Lib.hid (HBW.out.trans (hb1.mono HBW.out.size))
      clear hb1 e0
      by_cases hm : x ∈ c.v
      · rw [yes_t hm]
        have HE : Hid ((k : Int) ≥ 0 ↔ ∃ x ∈ l, x ∈ c.v) := Lib.hid ⟨fun _ => ⟨x, HM.out, hm⟩, fun _ => by omega⟩
        go_wp2_with fail
        go_ret
        exact ⟨_, rfl, HE.out, HB1.out⟩
      · rw [yes_f hm]
        have HE : Hid (∀ x ∈ l.take (k + 1), x ∉ c.v) := Lib.hid fun y hy => by
          rw [HT.out] at hy
          rcases List.mem_append.1 hy with hy | hy
          · exact HK.out y hy
          · simp at hy; rw [hy]; exact hm
        clear hm
        go_wp2_with fail
        go_roundg (gk - 1)
        case measure => omega
        case rel => exact ⟨k + 1, by go_num, by omega, HB1, HE⟩
    · have hkk : ¬ (k : Int) < (n : Int) := by omega
      obtain rfl : k = n := by omega
      have HE : Hid ((-1 : Int) ≥ 0 ↔ ∃ x ∈ l, x ∈ c.v) := Lib.hid ⟨fun h => by omega, fun ⟨x, h1, h2⟩ => absurd h2 (HK.out x (by rw [HN.out, List.take_length]; exact h1))⟩
      go_wp2_with fail
      go_ret
      exact ⟨_, rfl, HE.out, HBW.out⟩

set_option maxRecDepth 20000 in
theorem ContainsBoth_any (c : Cf) (l : List Int) (F G : Nat → Prop) (g : Nat) (v vv lv : Value) (w : World) (h : CfAt w F g c vv lv) (hv : RepI w G l v) (hG : ∀ k, G k → k < w.heap.size) :
    Calls Try.prog 35 #[v, .func (.func 32) #[] #[.pointer (some ⟨g, 0, none⟩)]] w fun e w' => e = .returned (.bool (yes (∃ x ∈ l, x ∈ c.v))) ∧ Below w.heap.size w w' := by
  have HC := Lib.hid (IndexBoth_any c l F G g v vv lv w h hv hG)
  obtain ⟨va, vc, rfl, -⟩ := hv.slice
  clear h hv hG
  go_enter Try.func35, Try.ntmps35
  go_wp2_with fail
  refine HC.out.mono ?_
  rintro e w' ⟨z, rfl, hz, hb⟩
  have HY : Hid (yes (∃ x ∈ l, x ∈ c.v) = decide (z ≥ 0)) := Lib.hid (yes_of (by rw [decide_eq_true_iff]; exact hz))
  clear hz
  go_wp2_with fail
  all_goals go_ret
  all_goals exact ⟨by rw [HY.out]; simp_all, hb⟩

set_option maxRecDepth 20000 in
theorem size_any (c : Cf) (F : Nat → Prop) (vv lv : Value) (w : World) (hv : RepI w F c.v vv) (hl : RepI w F c.l lv) (h : c.v.length + c.l.length ≤ 9223372036854775807) :
    Calls Try.prog 31 #[.agg #[vv, lv]] w fun e w' => e = .returned (.int .i64 ((c.v.length + c.l.length : Nat) : Int)) ∧ Below w.heap.size w w' := by
  obtain ⟨a, k, rfl, -⟩ := hv.slice
  obtain ⟨a', k', rfl, -⟩ := hl.slice
  obtain ⟨n, hn⟩ : ∃ n, n = c.v.length := ⟨_, rfl⟩
  obtain ⟨m, hm⟩ : ∃ m, m = c.l.length := ⟨_, rfl⟩
  rw [← hn, ← hm] at h ⊢
  clear hv hl hn hm
  go_enter Try.func31, Try.ntmps31
  go_wp2_with fail
  go_ret
  exact ⟨by simp, below_alloc _ _⟩
end Go.Proofs.Ytdngfbljcmbniaa.M

/- Part: MmH. -/
namespace Go.Proofs.Ytdngfbljcmbniaa.M
open Go.RowKit

/-- A configuration in a block of the call's own, its lists rows of the call's own; the block itself still tells of bv and bl. -/
structure NX (base gB : Nat) (bv bl : Value) (c : Cf) (v l : Value) (w : World) : Prop where
  box : w.heap[gB]? = some (.cells #[bv, bl] 25)
  two : Two base c v l w
  low : base ≤ gB
  nv : v.ownBlock ≠ some gB
  nl : l.ownBlock ≠ some gB

/-- What a step leaves. -/
def StepPost (base gB : Nat) (r : Cf × Int) (w : World) (e : Ending) (w' : World) : Prop :=
  e = .returned (.int .i64 r.2) ∧ Below base w w' ∧ (r.2 = 0 → ∃ v l, NX base gB v l r.1 v l w')

section
variable {base gB : Nat} {bv bl : Value} {c : Cf} {v l u : Value} {w w' : World}
theorem NX.next (h : NX base gB bv bl c v l w) (hb : Below w.heap.size w w') : NX base gB bv bl c v l w' := ⟨old_below h.box hb, h.two.next hb, h.low, h.nv, h.nl⟩

theorem NX.lt (h : NX base gB bv bl c v l w) : gB < w.heap.size := lt_of_heap h.box

theorem NX.size (h : NX base gB bv bl c v l w) : base ≤ w.heap.size := Nat.le_trans h.low (Nat.le_of_lt h.lt)

theorem NX.repv (h : NX base gB bv bl c v l w) : RepI w (fun b => b < w.heap.size) c.v v := h.two.rv.rep.same (fun _ h => h.2) fun _ _ => rfl
theorem NX.repl (h : NX base gB bv bl c v l w) : RepI w (fun b => b < w.heap.size) c.l l := h.two.rl.rep.same (fun _ h => h.2) fun _ _ => rfl

theorem NX.set0 (h : NX base gB bv bl c v l w) : NX base gB u bl c v l (w.setCell ⟨gB, 0, none⟩ u) :=
  ⟨(heap_set2 h.box).1, ⟨h.two.rv.set h.nv, h.two.rl.set h.nl, h.two.apart⟩, h.low, h.nv, h.nl⟩

theorem NX.set1 (h : NX base gB bv bl c v l w) : NX base gB bv u c v l (w.setCell ⟨gB, 1, none⟩ u) :=
  ⟨(heap_set2 h.box).2, ⟨h.two.rv.set h.nv, h.two.rl.set h.nl, h.two.apart⟩, h.low, h.nv, h.nl⟩

theorem Turned.block {L : List Int} {v' : Value} (h : Turned base L v v' w w') {k : Nat} (hk : k < w.heap.size) (hn : v.ownBlock ≠ some k) : v'.ownBlock ≠ some k := by
  rcases h.2.2 with h | ⟨g, h, hg⟩
  · rw [h]; exact hn
  · rw [h]; intro e; cases e; omega

theorem Turned.old {L : List Int} {v' : Value} (h : Turned base L v v' w w') {k : Nat} {o : Obj} (ho : w.heap[k]? = some o) (hn : v.ownBlock ≠ some k) : w'.heap[k]? = some o :=
  (h.2.1.block k (lt_of_heap ho) fun e => hn e.symm).trans ho

theorem Turned.below {L0 L : List Int} {v' : Value} (h : Turned base L v v' w w') (h0 : IR base L0 v w) (hb : base ≤ w.heap.size) : Below base w w' :=
  ⟨h.2.1.os, h.2.1.tape, h.2.1.output, h.2.1.size, fun k hk => h.2.1.block k (by omega) fun e => by have := (h0.block_lt e.symm).1; omega⟩

theorem NX.turnL (h : NX base gB bv bl c v l w) {L : List Int} {l' : Value} (ht : Turned base L l l' w w') : NX base gB bv bl ⟨c.v, L⟩ v l' w' := by
  refine ⟨ht.old h.box h.nl, ⟨h.two.rv.kept ht.2.1 h.two.apart, ht.1, fun e => ?_⟩, h.low, h.nv, ht.block h.lt h.nl⟩
  rcases ht.2.2 with h1 | ⟨g, h1, hg⟩
  · exact h.two.apart (e.trans h1)
  · have := (h.two.rv.block_lt (e.trans h1)).2
    omega

theorem NX.turnV (h : NX base gB bv bl c v l w) {L : List Int} {v' : Value} (ht : Turned base L v v' w w') : NX base gB bv bl ⟨L, c.l⟩ v' l w' := by
  refine ⟨ht.old h.box h.nv, ⟨ht.1, h.two.rl.kept ht.2.1 fun e => by rw [e]; exact h.two.apart e.symm, fun e => ?_⟩, h.low, ht.block h.lt h.nv, h.nl⟩
  rcases ht.2.2 with h1 | ⟨g, h1, hg⟩
  · rw [h1]; exact h.two.apart (h1.symm.trans e)
  · have := (h.two.rl.block_lt (e.symm.trans h1)).2
    omega
end

theorem only_of_grown {X : Nat → Prop} {w w' : World} {row : Option Nat} (h : w.grownBy w' row) (hX : ∀ k, row = some k → X k) : Only X w w' :=
  ⟨h.os, h.tape, h.output, h.size, fun k hk hn => h.block k hk fun e => hn (hX k e.symm)⟩

theorem below_low {base : Nat} {w w' : World} (hb : base ≤ w.heap.size) (h : Below w.heap.size w w') : Below base w w' := h.mono hb

set_option maxRecDepth 20000 in
set_option maxHeartbeats 3200000 in
theorem add_any (base gB gi : Nat) (c : Cf) (v l : Value) (i : Int) (w : World) (h : NX base gB v l c v l w) (hc : c.ok) (hi : okN i) (hg : w.heap[gi]? = some (.cells #[.int .i64 i] 3)) (hv : v.ownBlock ≠ some gi) (hl : l.ownBlock ≠ some gi) (hne : gi ≠ gB) :
    Calls Try.prog 57 #[.pointer (some ⟨gB, 0, none⟩), .pointer (some ⟨gi, 0, none⟩)] w fun e w' => StepPost base gB (next1 c 1 i) w e w' := by
  obtain ⟨va, vk, hvv⟩ := h.two.rv.slice
  obtain ⟨la, lk, hlv⟩ := h.two.rl.slice
  obtain ⟨n, hn⟩ : ∃ n, n = c.v.length := ⟨_, rfl⟩
  obtain ⟨m, hm⟩ : ∃ m, m = c.l.length := ⟨_, rfl⟩
  have h9 := hc.2.1
  rw [← hn, ← hm] at h9
  have HAS := Lib.hid fun w' (hb : Below w.heap.size w w') => Has_any c i _ v l w' (h.next hb).repv (h.next hb).repl (fun k hk => hk)
  have SIZE := Lib.hid fun w' (hb : Below w.heap.size w w') => size_any c _ v l w' (h.next hb).repv (h.next hb).repl (by omega)
  rw [← hn, ← hm] at SIZE
  rw [← hn] at hvv
  rw [← hm] at hlv
  subst hvv hlv
  have H := Lib.hid h
  have HC := Lib.hid hc
  have hS : Below w.heap.size w w.drew := ⟨rfl, rfl, rfl, Nat.le_refl _, fun _ _ => rfl⟩
  have r0 : ∀ w', Below w.heap.size w w' → w'.cell? ⟨gB, 0, none⟩ = some (.slice va n vk) := fun w' hw' => (block2' (old_below h.box hw')).1
  have r1 : ∀ w', Below w.heap.size w w' → w'.cell? ⟨gB, 1, none⟩ = some (.slice la m lk) := fun w' hw' => (block2' (old_below h.box hw')).2.1
  have r2 : ∀ w', Below w.heap.size w w' → w'.cell? ⟨gi, 0, none⟩ = some (.int .i64 i) := fun w' hw' => cell_of_row w' gi 0 _ _ _ (old_below hg hw')
  have HN := Lib.hid hn
  have HM := Lib.hid hm
  have HG := Lib.hid hg
  have HV := Lib.hid hv
  have HL := Lib.hid hl
  have HI := Lib.hid hi
  have HLO : Hid (base ≤ w.heap.size) := Lib.hid h.size
  clear h hc hn hm hg hv hl hi
  go_enter Try.func57, Try.ntmps57
  go_wp2_with fail
  refine wp_region_held (S := fun w' => Below w.heap.size w w') (by kernel_rfl) ?_
  refine H_take (i := 0) (v := ?_) rfl (by as_aux_lemma => kernel_rfl) (by as_aux_lemma => kernel_rfl) (by as_aux_lemma => kernel_rfl) (fun _ _ _ h => h) (by rfl) hS ?_ ?_
  rotate_left
  · intro w' hw'; go_simp; with_reducible rfl
  go_simp
  refine H_take (i := 1) (v := ?_) rfl (by as_aux_lemma => kernel_rfl) (by as_aux_lemma => kernel_rfl) (by as_aux_lemma => kernel_rfl) (fun _ _ _ h => h) (by rfl) hS ?_ ?_
  rotate_left
  · intro w' hw'; go_simp; with_reducible rfl
  go_simp
  refine H_take (i := 2) (v := ?_) rfl (by as_aux_lemma => kernel_rfl) (by as_aux_lemma => kernel_rfl) (by as_aux_lemma => kernel_rfl) (fun _ _ _ h => h) (by rfl) hS ?_ ?_
  rotate_left
  · intro w' hw'; go_simp; with_reducible rfl
  go_simp
  refine H_take (i := 3) (v := ?_) rfl (by as_aux_lemma => kernel_rfl) (by as_aux_lemma => kernel_rfl) (by as_aux_lemma => kernel_rfl) (fun _ _ _ h => h) (by rfl) hS ?_ ?_
  rotate_left
  · intro w' hw'; go_simp; with_reducible rfl
  go_simp
  refine H_one (i := 4) (by as_aux_lemma => kernel_rfl) rfl (by rfl) ?_
  go_simp
  refine (HAS.out _ hS).mono ?_
  rintro e w1 ⟨rfl, hb1⟩
  have hS1 : Below w.heap.size w w1 := hS.trans hb1
  clear hb1
  refine ⟨hS1, ?_⟩
  by_cases hx : i ∈ c.v ∨ i ∈ c.l
  · rw [yes_t hx]
    go_simp
    refine H_take (i := 5) (v := ?_) rfl (by as_aux_lemma => kernel_rfl) (by as_aux_lemma => kernel_rfl) (by as_aux_lemma => kernel_rfl) (fun _ _ _ h => h) (by rfl) hS1 ?_ ?_
    rotate_left
    · intro w' hw'; go_simp; with_reducible rfl
    go_simp
    refine H_skip (i := 6) rfl (by as_aux_lemma => kernel_rfl) (by as_aux_lemma => kernel_rfl) (by as_aux_lemma => kernel_rfl) (fun _ _ _ h => h) (by rfl) hS1 ?_
    go_simp
    refine H_skip (i := 7) rfl (by as_aux_lemma => kernel_rfl) (by as_aux_lemma => kernel_rfl) (by as_aux_lemma => kernel_rfl) (fun _ _ _ h => h) (by rfl) hS1 ?_
    go_simp
    refine H_skip (i := 8) rfl (by as_aux_lemma => kernel_rfl) (by as_aux_lemma => kernel_rfl) (by as_aux_lemma => kernel_rfl) (fun _ _ _ h => h) (by rfl) hS1 ?_
    go_simp
    refine H_skip (i := 9) rfl (by as_aux_lemma => kernel_rfl) (by as_aux_lemma => kernel_rfl) (by as_aux_lemma => kernel_rfl) (fun _ _ _ h => h) (by rfl) hS1 ?_
    go_simp
    refine H_skip (i := 10) rfl (by as_aux_lemma => kernel_rfl) (by as_aux_lemma => kernel_rfl) (by as_aux_lemma => kernel_rfl) (fun _ _ _ h => h) (by rfl) hS1 ?_
    go_simp
    refine H_take (i := 11) (v := ?_) rfl (by as_aux_lemma => kernel_rfl) (by as_aux_lemma => kernel_rfl) (by as_aux_lemma => kernel_rfl) (fun _ _ _ h => h) (by rfl) hS1 ?_ ?_
    rotate_left
    · intro w' hw'; go_simp; with_reducible rfl
    go_simp
    refine wpAnyH_done (by as_aux_lemma => kernel_rfl) ?_ _
    have HE : Hid (next1 c 1 i = (cf0, 80)) := Lib.hid (next1_add_no rfl HI.out (by rcases hx with h | h; exact .inl h; exact .inr (.inl h)))
    have HB : Hid (Below base w w1) := Lib.hid (below_low HLO.out hS1)
    clear r0 r1 r2 hx
    go_wp2_with fail
    go_ret
    rw [HE.out]
    exact ⟨rfl, HB.out, fun h => by cases h⟩
  rw [yes_f hx]
  go_simp
  refine H_take (i := 5) (v := ?_) rfl (by as_aux_lemma => kernel_rfl) (by as_aux_lemma => kernel_rfl) (by as_aux_lemma => kernel_rfl) (fun _ _ _ h => h) (by rfl) hS1 ?_ ?_
  rotate_left
  · intro w' hw'; go_simp; with_reducible rfl
  go_simp
  refine H_take (i := 6) (v := ?_) rfl (by as_aux_lemma => kernel_rfl) (by as_aux_lemma => kernel_rfl) (by as_aux_lemma => kernel_rfl) (fun _ _ _ h => h) (by rfl) hS1 ?_ ?_
  rotate_left
  · intro w' hw'; go_simp; with_reducible rfl
  go_simp
  refine H_take (i := 7) (v := ?_) rfl (by as_aux_lemma => kernel_rfl) (by as_aux_lemma => kernel_rfl) (by as_aux_lemma => kernel_rfl) (fun _ _ _ h => h) (by rfl) hS1 ?_ ?_
  rotate_left
  · intro w' hw'; go_simp; with_reducible rfl
  go_simp
  refine H_take (i := 8) (v := ?_) rfl (by as_aux_lemma => kernel_rfl) (by as_aux_lemma => kernel_rfl) (by as_aux_lemma => kernel_rfl) (fun _ _ _ h => h) (by rfl) hS1 ?_ ?_
  rotate_left
  · intro w' hw'; go_simp; with_reducible rfl
  go_simp
  refine H_one (i := 9) (by as_aux_lemma => kernel_rfl) rfl (by rfl) ?_
  go_simp
  refine (SIZE.out w1 hS1).mono ?_
  rintro e w2 ⟨rfl, hb2⟩
  have hS2 : Below w.heap.size w w2 := hS1.trans (hb2.mono hS1.size)
  clear hb2
  refine ⟨hS2, ?_⟩
  by_cases h9' : n + m ≥ 9
  · have q9 : decide (((n + m : Nat) : Int) ≥ 9) = true := decide_eq_true (by omega)
    go_simp
    refine H_take (i := 10) (v := ?_) rfl (by as_aux_lemma => kernel_rfl) (by as_aux_lemma => kernel_rfl) (by as_aux_lemma => kernel_rfl) (fun _ _ _ h => h) (by rfl) hS2 ?_ ?_
    rotate_left
    · intro w' hw'; go_simp; with_reducible rfl
    go_simp
    refine H_take (i := 11) (v := ?_) rfl (by as_aux_lemma => kernel_rfl) (by as_aux_lemma => kernel_rfl) (by as_aux_lemma => kernel_rfl) (fun _ _ _ h => h) (by rfl) hS2 ?_ ?_
    rotate_left
    · intro w' hw'; go_simp; with_reducible rfl
    go_simp
    refine wpAnyH_done (by as_aux_lemma => kernel_rfl) ?_ _
    have HE : Hid (next1 c 1 i = (cf0, 80)) := Lib.hid (next1_add_no rfl HI.out (.inr (.inr (by rw [← HN.out, ← HM.out]; exact h9'))))
    have HB : Hid (Below base w w2) := Lib.hid (below_low HLO.out hS2)
    clear r0 r1 r2 hx
    go_wp2_with fail
    go_ret
    rw [HE.out]
    exact ⟨rfl, HB.out, fun h => by cases h⟩
  have q9 : decide (((n + m : Nat) : Int) ≥ 9) = false := decide_eq_false (by omega)
  go_simp
  refine H_take (i := 10) (v := ?_) rfl (by as_aux_lemma => kernel_rfl) (by as_aux_lemma => kernel_rfl) (by as_aux_lemma => kernel_rfl) (fun _ _ _ h => h) (by rfl) hS2 ?_ ?_
  rotate_left
  · intro w' hw'; go_simp; with_reducible rfl
  go_simp
  refine H_take (i := 11) (v := ?_) rfl (by as_aux_lemma => kernel_rfl) (by as_aux_lemma => kernel_rfl) (by as_aux_lemma => kernel_rfl) (fun _ _ _ h => h) (by rfl) hS2 ?_ ?_
  rotate_left
  · intro w' hw'; go_simp; with_reducible rfl
  go_simp
  refine wpAnyH_done (by as_aux_lemma => kernel_rfl) ?_ _
  have HE : Hid (next1 c 1 i = (⟨c.v, putN c.l i⟩, 0)) := Lib.hid (next1_add rfl HI.out (fun e => hx (.inl e)) (fun e => hx (.inr e)) (by rw [← HN.out, ← HM.out]; omega))
  have HNI : Hid (i ∉ c.l) := Lib.hid fun e => hx (.inr e)
  have H2 := Lib.hid (H.out.next hS2)
  have HB : Hid (Below base w w2) := Lib.hid (below_low HLO.out hS2)
  have HW2 := Lib.hid hS2
  have HLO2 : Hid (base ≤ w2.heap.size) := Lib.hid (Nat.le_trans HLO.out hS2.size)
  obtain ⟨c0, c1, z0, z1, -⟩ := block2' H2.out.box
  have c2 : w2.cell? ⟨gi, 0, none⟩ = some (.int .i64 i) := r2 w2 hS2
  clear r0 r1 r2 hx hS hS1 hS2
  go_wp2_with fail
  obtain ⟨X, hX⟩ : ∃ X : Nat → Prop, X = fun q => q = gB ∨ (Value.slice la m lk).ownBlock = some q := ⟨_, rfl⟩
  have HX : Hid (∀ q, X q ↔ q = gB ∨ (Value.slice la m lk).ownBlock = some q) := Lib.hid (by rw [hX]; exact fun q => Iff.rfl)
  clear hX
  refine wp_region_held (S := fun w' => Only X w2 w') (by kernel_rfl) ?_
  have hS3 : Only X w2 w2.drew := ⟨rfl, rfl, rfl, Nat.le_refl _, fun _ _ _ => rfl⟩
  have r2 : ∀ w', Only X w2 w' → w'.cell? ⟨gi, 0, none⟩ = some (.int .i64 i) := fun w' hw' => (cell_only hw' (lt_of_heap (old_below HG.out HW2.out)) (fun hx => by
    rcases (HX.out gi).1 hx with h | h
    · exact hne h
    · exact HL.out h) 0).trans c2
  have c1' : w2.drew.cell? ⟨gB, 1, none⟩ = some (.slice la m lk) := c1
  clear c0 c1 c2 z0
  refine H_take (i := 0) (v := ?_) rfl (by as_aux_lemma => kernel_rfl) (by as_aux_lemma => kernel_rfl) (by as_aux_lemma => kernel_rfl) (fun _ _ _ h => h) (by rfl) hS3 ?_ ?_
  rotate_left
  · intro w' hw'; go_simp; with_reducible rfl
  go_simp
  refine H_take (i := 1) (v := ?_) rfl (by as_aux_lemma => kernel_rfl) (by as_aux_lemma => kernel_rfl) (by as_aux_lemma => kernel_rfl) (fun _ _ _ h => h) (by rfl) hS3 ?_ ?_
  rotate_left
  · intro w' hw'; go_simp; with_reducible rfl
  go_simp
  refine H_take (i := 2) (v := ?_) rfl (by as_aux_lemma => kernel_rfl) (by as_aux_lemma => kernel_rfl) (by as_aux_lemma => kernel_rfl) (fun _ _ _ h => h) (by rfl) hS3 ?_ ?_
  rotate_left
  · intro w' hw'; go_simp; with_reducible rfl
  go_simp
  refine H_take (i := 3) (v := ?_) rfl (by as_aux_lemma => kernel_rfl) (by as_aux_lemma => kernel_rfl) (by as_aux_lemma => kernel_rfl) (fun _ _ _ h => h) (by rfl) hS3 ?_ ?_
  rotate_left
  · intro w' hw'; go_simp; with_reducible rfl
  go_simp
  refine H_take (i := 5) (v := ?_) rfl (by as_aux_lemma => kernel_rfl) (by as_aux_lemma => kernel_rfl) (by as_aux_lemma => kernel_rfl) (fun _ _ _ h => h) (by rfl) hS3 ?_ ?_
  rotate_left
  · intro w' hw'; go_simp; with_reducible rfl
  go_simp
  refine H_one (i := 4) (by as_aux_lemma => kernel_rfl) rfl (by rfl) ?_
  go_simp
  refine H_one (i := 6) (by as_aux_lemma => kernel_rfl) rfl (by rfl) ?_
  go_simp
  have HDR : Hid (Below w2.heap.size w2 w2.drew) := Lib.hid ⟨rfl, rfl, rfl, Nat.le_refl _, fun _ _ => rfl⟩
  refine (with_any base c.l i _ w2.drew (H2.out.two.rl.next HDR.out) HLO2.out HC.out.2.2.2.1.2 HNI.out HI.out (by have := HC.out.2.1; omega)).mono ?_
  rintro e w4 ⟨l', rfl, ht⟩
  obtain ⟨a4, k4, hv4⟩ := ht.1.slice
  subst hv4
  have hS4 : Only X w2 w4 := Only.thn hS3 (fun k hk => .inl hk) (only_of_grown ht.2.1 fun k hk => (HX.out k).2 (.inr hk))
  refine ⟨hS4, ?_⟩
  have HN4X := Lib.hid ((H2.out.next HDR.out).turnL ht)
  have HB4 : Hid (Below base w w4) := Lib.hid ((HB.out.trans (below_low HLO2.out HDR.out)).trans (ht.below (H2.out.two.rl.next HDR.out) HLO2.out))
  obtain ⟨d0, d1, y0, y1, dz⟩ := block2' HN4X.out.box
  obtain ⟨n4, hn4⟩ : ∃ n4, n4 = (putN c.l i).length := ⟨_, rfl⟩
  rw [← hn4] at HN4X ⊢
  clear r2 c1' ht hn4
  go_simp
  refine H_take (i := 7) (v := ?_) rfl (by as_aux_lemma => kernel_rfl) (by as_aux_lemma => kernel_rfl) (by as_aux_lemma => kernel_rfl) (fun _ _ _ h => h) (by rfl) hS4 ?_ ?_
  rotate_left
  · intro w' hw'; go_simp; with_reducible rfl
  go_simp
  refine H_take (i := 8) (v := ?_) rfl (by as_aux_lemma => kernel_rfl) (by as_aux_lemma => kernel_rfl) (by as_aux_lemma => kernel_rfl) (fun _ _ _ h => h) (by rfl) hS4 ?_ ?_
  rotate_left
  · intro w' hw'; go_simp; with_reducible rfl
  go_simp
  refine H_one (i := 9) (by as_aux_lemma => kernel_rfl) rfl (by rfl) ?_
  go_simp
  have hS5 : Only X w2 (w4.setCell ⟨gB, 1, none⟩ (.slice a4 n4 k4)) := hS4.set (.inl ((HX.out gB).2 (.inl rfl))) _
  refine ⟨hS5, ?_⟩
  refine wpAnyH_done (by as_aux_lemma => kernel_rfl) ?_ _
  clear hS3 hS4 hS5
  go_wp2_with fail
  go_ret
  rw [HE.out]
  exact ⟨rfl, HB4.out.setCell HN4X.out.low _, fun _ => ⟨_, _, HN4X.out.set1⟩⟩
end Go.Proofs.Ytdngfbljcmbniaa.M

/- Part: MmM. -/
namespace Go.Proofs.Ytdngfbljcmbniaa.M
open Go.RowKit

set_option maxRecDepth 20000 in
set_option maxHeartbeats 1000000 in
theorem RefIn_any (l : List Int) (x : Int) (F : Nat → Prop) (v : Value) (w : World) (hv : RepI w F l v) :
    Calls Try.prog 23 #[v, .int .i64 x] w fun e w' => e = .returned (.bool (yes (x ∈ l))) ∧ w' = w := by
  obtain ⟨va, vc, rfl, hl⟩ := hv.slice
  obtain ⟨n, hn⟩ : ∃ n, n = l.length := ⟨_, rfl⟩
  obtain ⟨y, hy⟩ : ∃ y, y = yes (x ∈ l) := ⟨_, rfl⟩
  rw [← hy]
  rw [← hn] at hl ⊢
  have HV := Lib.hid hv
  have HN := Lib.hid hn
  have HY := Lib.hid hy
  rw [← hn] at HV
  clear hv hn hy
  go_enter Try.func23, Try.ntmps23
  go_wp2_with fail
  go_loopw [5] (fun i wr => ∃ k : Nat, k ≤ n ∧ i = .int .i64 (k : Int) ∧ Hid (wr = w) ∧ Hid (x ∉ l.take k)) (fun i _ => n - (intOf i).toNat)
  case atStart => exact ⟨0, Nat.zero_le _, rfl, Lib.hid rfl, Lib.hid (by simp)⟩
  case round =>
    obtain ⟨k, hk, rfl, HW, HK⟩ := hrel
    by_cases hlt : k < n
    · have hkk : (k : Int) < (n : Int) := by omega
      have hlt2 : k < l.length := by rw [← HN.out]; exact hlt
      have HR := Lib.hid (HW.out ▸ HV.out : RepI wr F l (.slice va n vc))
      obtain ⟨b, off, rfl, -, e0, -, -⟩ := HR.out.elem k hlt2
      obtain ⟨z, hz⟩ : ∃ z, z = l[k] := ⟨_, rfl⟩
      rw [← hz] at e0
      have HT : Hid (l.take (k + 1) = l.take k ++ [z]) := Lib.hid (by rw [hz]; exact take_snoc hlt2)
      have HM : Hid (z ∈ l) := Lib.hid (by rw [hz]; exact List.getElem_mem hlt2)
      clear hz
      by_cases hzx : z = x
      · have q : (z == x) = true := by simpa using hzx
        have HE : Hid (y = true) := Lib.hid (by rw [HY.out]; exact yes_t (hzx ▸ HM.out))
        clear hzx
        go_wp2_with fail
        go_ret
        exact ⟨by rw [HE.out]; rfl, HW.out⟩
      · have q : (z == x) = false := by simpa using hzx
        have HE : Hid (x ∉ l.take (k + 1)) := Lib.hid (by rw [HT.out]; intro h; rcases List.mem_append.1 h with h | h; exact HK.out h; simp at h; exact hzx h.symm)
        go_wp2_with fail
        go_roundw
        case rel => exact ⟨k + 1, by omega, by simp, HW, HE⟩
        case measure => simp only [intOf]; omega
    · obtain rfl : k = n := by omega
      have hkk : ¬ ((k : Nat) : Int) < (k : Int) := by omega
      have HE : Hid (y = false) := Lib.hid (by rw [HY.out]; exact yes_f (by have := HK.out; rw [HN.out, List.take_length] at this; exact this))
      go_wp2_with fail
      go_ret
      exact ⟨by rw [HE.out]; rfl, HW.out⟩

/-- Since w nothing that was there has turned, and v is a row of ints of the call's own. -/
def OwnI (w : World) (l : List Int) (v : Value) (wr : World) : Prop := Below w.heap.size w wr ∧ IR w.heap.size l v wr

theorem OwnI.start (w : World) : OwnI w [] (.slice none 0 0) w := ⟨Below.refl _ _, IR.bare _ _⟩

theorem OwnI.next {w wr w' : World} {l : List Int} {v : Value} (h : OwnI w l v wr) (hb : Below wr.heap.size wr w') : OwnI w l v w' := ⟨h.1.trans (hb.mono h.1.size), h.2.next hb⟩

theorem OwnI.turned {w wr w' : World} {l l' : List Int} {v v' : Value} (h : OwnI w l v wr) (ht : Turned w.heap.size l' v v' wr w') : OwnI w l' v' w' := ⟨h.1.trans (ht.below h.2 h.1.size), ht.1⟩

theorem one_int {w : World} {z : Int} {g : Nat} (hg : g = w.heap.size) (hz : -9223372036854775808 ≤ z ∧ z ≤ 9223372036854775807) : RepI (w.alloc (.cells #[.int .i64 z] 3)) (fun _ => True) [z] (.slice (some ⟨g, 0, none⟩) 1 1) := by
  subst hg
  refine .inr ⟨w.heap.size, 0, 1, rfl, trivial, by simp, by omega, fun i hi => ?_⟩
  obtain rfl : i = 0 := by simpa using hi
  exact ⟨cell_of_row _ _ 0 _ _ _ (heap_alloc_new w _), hz⟩

theorem dropN_snoc (l : List Int) (x z : Int) : dropN (l ++ [z]) x = if z = x then dropN l x else dropN l x ++ [z] := by
  unfold dropN
  rw [List.filter_append]
  by_cases h : z = x
  · rw [if_pos h]; simp [h]
  · rw [if_neg h]; simp [h]

end Go.Proofs.Ytdngfbljcmbniaa.M
