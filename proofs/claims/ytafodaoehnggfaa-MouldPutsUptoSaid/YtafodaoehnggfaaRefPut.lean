/- The document's Put. -/
import Derived.Test.YtafodaoehnggfaaRefIs
import Derived.Test.YtafodaoehnggfaaRefNumber
namespace Go.Proofs.Ytafodaoehnggfaa.M
open Go.RowKit

/-- Bytes that a call owns: made since w. -/
def OutAt (w : World) (L : List UInt8) (v : Value) (wr : World) : Prop := Below w.heap.size w wr ∧ wr.ownsRow w.heap.size 5 1 v L.length (L.map byteV)

def PutRes (w : World) (L : List UInt8) (r : Ending) (w' : World) : Prop := ∃ a c, r = .returned (.slice a L.length c) ∧ OutAt w L (.slice a L.length c) w'

theorem PutRes.of {w w' : World} {L : List UInt8} {v : Value} (h : OutAt w L v w') : PutRes w L (.returned v) w' := by
  obtain ⟨a, c, rfl⟩ := owned_slice h.2
  exact ⟨a, c, rfl, h⟩

theorem ownsRow_base {w : World} {B B' t size n : Nat} {v : Value} {xs : List Value} (h : w.ownsRow B t size v n xs) (hb : B' ≤ B) : w.ownsRow B' t size v n xs := by
  obtain ⟨h1, h2 | ⟨g, cap, cur, hv, hg, h3⟩⟩ := h
  · exact ⟨h1, .inl h2⟩
  · exact ⟨h1, .inr ⟨g, cap, cur, hv, Nat.le_trans hb hg, h3⟩⟩

/-- What was made behind a box. -/
theorem OutAt.unbox {w w' : World} {o : Obj} {L : List UInt8} {v : Value} (h : OutAt (w.alloc o) L v w') : OutAt w L v w' :=
  ⟨(below_alloc _ _).trans (h.1.mono (by simp)), ownsRow_base h.2 (by simp)⟩

theorem OutAt.next {w wr w1 : World} {L : List UInt8} {v : Value} (h : OutAt w L v wr) (hb : Below wr.heap.size wr w1) : OutAt w L v w1 :=
  ⟨h.1.trans (hb.mono h.1.size), h.2.kept (grown_of_below hb) (by cases v.ownBlock <;> simp)⟩

theorem OutAt.app {w wr w1 : World} {L M : List UInt8} {v v1 : Value} (h : OutAt w L v wr) (ha : AppLeft wr w.heap.size 5 1 v L.length M.length (L.map byteV) (M.map byteV) v1 w1) : OutAt w (L ++ M) v1 w1 := by
  refine ⟨h.1.grown ha.2.1 h.1.size (fun j hj => (h.2.lt j hj).1), ?_⟩
  have := (Acc.of_app ha).1
  exact this

theorem OutAt.drew {w wr : World} {L : List UInt8} {v : Value} (h : OutAt w L v wr) : OutAt w L v wr.drew := ⟨h.1.drew, h.2⟩

def PutSaid (n : Nat) : Prop := ∀ (s : ByteArray) (e : Nat) (sh : Sh) (d : V) (F : Nat → Prop) (v : Value) (w : World), s.size ≤ n → s.size ≤ 64 → Exact e s.data.toList sh → e ≤ 9 → RepV w F d v → (∀ b, F b → b < w.heap.size) →
  isV sh d = true → vsize d ≤ 1099511627776 → Calls Try.prog 16 #[.string s, v] w (PutRes w (putV sh d))

set_option maxHeartbeats 1600000 in
theorem put_num1 (s : ByteArray) (e : Nat) (d : V) (F : Nat → Prop) (v : Value) (w : World) (hx : Exact e s.data.toList .num) (hv : RepV w F d v) : Calls Try.prog 16 #[.string s, v] w (PutRes w (putV .num d)) := by
  obtain ⟨h0, hb0⟩ := first_byte hx
  have h110 : ((s[0].toNat : Int) == 110) = true := by rw [hb0]; rfl
  obtain ⟨m, b, l⟩ := d
  obtain ⟨vb, vl, rfl, hm, hb, hvl⟩ := RepV_mk.1 hv
  have HN := Lib.hid (fun w => Number_any m w (Lib.hid hm))
  clear hx hv hb hvl hb0
  go_enter Try.func16, Try.ntmps16
  go_wp2_with fail
  refine (HN.out _).mono ?_
  rintro r w1 ⟨u, rfl, hB, hown⟩
  have HO : Hid (OutAt w (num m) u w1) := Lib.hid (OutAt.unbox (o := (.cells #[.int .u64 (m : Int), vb, vl] 31)) ⟨hB, hown⟩)
  clear hB hown
  go_wp2_with fail
  go_ret
  rw [putV]
  exact .of HO.out

set_option maxHeartbeats 3200000 in
theorem put_blob (s : ByteArray) (e : Nat) (d : V) (F : Nat → Prop) (v : Value) (w : World) (hx : Exact e s.data.toList .blob) (hv : RepV w F d v) (hF : ∀ b, F b → b < w.heap.size) (hl : vsize d ≤ 1099511627776) :
    Calls Try.prog 16 #[.string s, v] w (PutRes w (putV .blob d)) := by
  obtain ⟨h0, hb0⟩ := first_byte hx
  have h110 : ((s[0].toNat : Int) == 110) = false := by rw [hb0]; rfl
  have h98 : ((s[0].toNat : Int) == 98) = true := by rw [hb0]; rfl
  obtain ⟨m, b, l⟩ := d
  obtain ⟨vb, vl, rfl, hm, hb, hvl⟩ := RepV_mk.1 hv
  obtain ⟨ba, bc, rfl, -⟩ := hb.slice
  obtain ⟨la, lc, rfl, hlen⟩ := hvl.slice
  simp only [vsize] at hl
  have HN := Lib.hid (fun w => Number_any b.length w (Lib.hid (by omega)))
  have HBY := Lib.hid hb
  have HF := Lib.hid hF
  have hnl : (num b.length).length ≤ 9 := num_le _
  have HNL := Lib.hid hnl
  clear hx hv hb hvl hb0 hF hnl
  obtain ⟨ib, hib, hib0, hib1, hib2⟩ := info_parts infoByte
  obtain ⟨W, hW⟩ : ∃ W, W = w.alloc (.cells #[.int .u64 (m : Int), .slice ba b.length bc, .slice la l.length lc] 31) := ⟨_, rfl⟩
  have HW : Hid (W = w.alloc (.cells #[.int .u64 (m : Int), .slice ba b.length bc, .slice la l.length lc] 31)) := Lib.hid hW
  obtain ⟨c0, c1, c2, -, -, -, hz1⟩ := block3 (show W.heap[w.heap.size]? = _ from by rw [hW]; exact heap_new _ _ _ rfl)
  clear hW
  go_enter Try.func16, Try.ntmps16
  go_wp2_with fail
  rw [← HW.out]
  refine wp_region_held (S := fun w' => Below W.heap.size W w') (by kernel_rfl) ?_
  have hS : Below W.heap.size W W.drew := (Below.refl _ _).drew
  have q1 : ∀ w', Below W.heap.size W w' → w'.cell? ⟨w.heap.size, 1, none⟩ = some (.slice ba b.length bc) := fun w' hw' => (hw'.cell (p := ⟨w.heap.size, 1, none⟩) hz1).trans c1
  have hwr : IntKind.u64.wrap (b.length : Int) = (b.length : Int) := IntWalk.u64_in _ (by omega)
  clear c0 c1 c2
  refine H_take (i := 0) (v := ?_) rfl (by as_aux_lemma => kernel_rfl) (by as_aux_lemma => kernel_rfl) (by as_aux_lemma => kernel_rfl) (fun _ _ _ h => h) (by rfl) hS ?_ ?_
  rotate_left
  · intro w' hw'; go_simp; with_reducible rfl
  go_simp
  refine H_take (i := 1) (v := ?_) rfl (by as_aux_lemma => kernel_rfl) (by as_aux_lemma => kernel_rfl) (by as_aux_lemma => kernel_rfl) (fun _ _ _ h => h) (by rfl) hS ?_ ?_
  rotate_left
  · intro w' hw'; go_simp; with_reducible rfl
  go_simp
  refine H_take (i := 2) (v := ?_) rfl (by as_aux_lemma => kernel_rfl) (by as_aux_lemma => kernel_rfl) (by as_aux_lemma => kernel_rfl) (fun _ _ _ h => h) (by rfl) hS ?_ ?_
  rotate_left
  · intro w' hw'; go_simp; with_reducible rfl
  go_simp
  refine H_take (i := 3) (v := ?_) rfl (by as_aux_lemma => kernel_rfl) (by as_aux_lemma => kernel_rfl) (by as_aux_lemma => kernel_rfl) (fun _ _ _ h => h) (by rfl) hS ?_ ?_
  rotate_left
  · intro w' hw'; go_simp; with_reducible rfl
  go_simp
  refine H_take (i := 5) (v := ?_) rfl (by as_aux_lemma => kernel_rfl) (by as_aux_lemma => kernel_rfl) (by as_aux_lemma => kernel_rfl) (fun _ _ _ h => h) (by rfl) hS ?_ ?_
  rotate_left
  · intro w' hw'; go_simp; with_reducible rfl
  go_simp
  refine H_take (i := 6) (v := ?_) rfl (by as_aux_lemma => kernel_rfl) (by as_aux_lemma => kernel_rfl) (by as_aux_lemma => kernel_rfl) (fun _ _ _ h => h) (by rfl) hS ?_ ?_
  rotate_left
  · intro w' hw'; go_simp; with_reducible rfl
  go_simp
  refine H_one (i := 4) (by as_aux_lemma => kernel_rfl) rfl (by rfl) ?_
  go_simp
  refine (HN.out _).mono ?_
  rintro r w1 ⟨u, rfl, hB, hown⟩
  have hS1 : Below W.heap.size W w1 := hS.trans hB
  have HO : Hid (OutAt W (num b.length) u w1) := Lib.hid ⟨hS1, hown⟩
  have HY : Hid (Yields w1 (.slice ba b.length bc) b.length 1 (b.map byteV)) := Lib.hid (HBY.out.same (G := F) (fun _ h => h) fun j hj => by
    have := HF.out j hj
    rw [hS1.block j (by rw [HW.out]; simp; omega), HW.out, Below.heap_alloc _ _ _ this]).yields
  have hbs : W.heap.size ≤ w1.heap.size := hS1.size
  clear hB hown
  refine ⟨hS1, ?_⟩
  go_simp
  refine H_one (i := 7) (by as_aux_lemma => kernel_rfl) rfl (by rfl) ?_
  refine wp_append_any _ _ _ 29 rfl W.heap.size 5 ib (.int .u8 0) 1 1 Try.underlying29 hib hib0 hib1 hib2 rfl (by decide) _ (num b.length).length ((num b.length).map byteV) rfl HO.out.2 (.slice ba b.length bc) rfl b.length (b.map byteV) HY.out (by have := HNL.out; unfold maxLen; omega) (by have := HNL.out; omega) hbs ?_
  intro v2 w2 happ
  have hO2 := HO.out.app happ
  have hS2 : Below W.heap.size W w2 := hO2.1
  have HO2 := Lib.hid hO2
  clear happ hO2 hS1
  refine ⟨hS2, ?_⟩
  go_simp
  refine H_take (i := 8) (v := ?_) rfl (by as_aux_lemma => kernel_rfl) (by as_aux_lemma => kernel_rfl) (by as_aux_lemma => kernel_rfl) (fun _ _ _ h => h) (by rfl) hS2 ?_ ?_
  rotate_left
  · intro w' hw'; go_simp; with_reducible rfl
  go_simp
  refine wpAnyH_done (by as_aux_lemma => kernel_rfl) ?_ _
  clear q1 hS hS2
  go_wp2_with fail
  go_ret
  rw [putV]
  have h9 := HO2.out
  rw [HW.out] at h9
  exact .of h9.unbox

/-- A cell that is not in the row that grows. -/
theorem grown_cell {w w' : World} {own : Option Nat} {b o : Nat} {v : Value} (h : w.grownBy w' own) (hb : b < w.heap.size) (hn : own ≠ some b) (hc : w.cell? ⟨b, o, none⟩ = some v) : w'.cell? ⟨b, o, none⟩ = some v :=
  (World.cell?_of_block (h.block b hb (fun e => hn e.symm))).trans hc

theorem putMany_take {sh : Sh} (l : List V) (k : Nat) (h : k < l.length) : ((l.take (k + 1)).map (putV sh)).flatten = ((l.take k).map (putV sh)).flatten ++ putV sh l[k] := by
  rw [List.take_add_one, List.getElem?_eq_getElem h, List.map_append, List.flatten_append]
  congr 1
  simp

theorem putMany_le (sh : Sh) : ∀ (l : List V), ((l.map (putV sh)).flatten).length ≤ vsizes l
  | [] => by simp
  | v :: l => by
    have h1 := putV_le sh v
    have h2 := putMany_le sh l
    rw [List.map_cons, List.flatten_cons, List.length_append]
    simp only [vsizes]
    omega

theorem vsizes_take (l : List V) (k : Nat) : vsizes (l.take k) ≤ vsizes l := by
  induction l generalizing k with
  | nil => simp
  | cons v l ih =>
    cases k with
    | zero => simp [vsizes]
    | succ k => have := ih k; simp only [List.take_succ_cons, vsizes]; omega

set_option maxHeartbeats 3200000 in
theorem put_list {n : Nat} (ih : ∀ m, m < n → PutSaid m) (s : ByteArray) (e : Nat) (sh : Sh) (d : V) (F : Nat → Prop) (v : Value) (w : World) (hn : s.size ≤ n) (hs : s.size ≤ 64) (hx : Exact e s.data.toList (.list sh)) (he : e ≤ 9) (hv : RepV w F d v)
    (hF : ∀ b, F b → b < w.heap.size) (hi : isV (.list sh) d = true) (hl : vsize d ≤ 1099511627776) : Calls Try.prog 16 #[.string s, v] w (PutRes w (putV (.list sh) d)) := by
  obtain ⟨h0, hb0⟩ := first_byte hx
  obtain ⟨e', rfl, hx', hsz'⟩ := behind_star hx
  have HSUB : Hid (∀ (x : V) (u : Value) (w : World), RepV w F x u → (∀ b, F b → b < w.heap.size) → isV sh x = true → vsize x ≤ 1099511627776 → Calls Try.prog 16 #[.string (s.extract 1 s.size), u] w (PutRes w (putV sh x))) :=
    Lib.hid (fun x u w h1 h2 h3 h4 => ih (s.extract 1 s.size).size (by omega) _ e' sh x F u w (Nat.le_refl _) (by omega) hx' (by omega) h1 h2 h3 h4)
  obtain ⟨m, b, l⟩ := d
  obtain ⟨vb, vl, rfl, hm, hb, hvl⟩ := RepV_mk.1 hv
  obtain ⟨ba, bc, rfl, -⟩ := hb.slice
  obtain ⟨la, lc, rfl, hlen⟩ := hvl.slice
  simp only [vsize] at hl
  rw [isV] at hi
  simp only [V.l] at hi
  have HALL : Hid (∀ k (h : k < l.length), isV sh l[k] = true) := Lib.hid (fun k h => List.all_eq_true.1 hi _ (List.getElem_mem h))
  have hll := vsizes_len l
  have HV := Lib.hid hvl
  have HF := Lib.hid hF
  have HN := Lib.hid (fun w => Number_any l.length w (Lib.hid (by omega)))
  have HNL := Lib.hid (num_le l.length)
  have HSL : Hid (∀ k (h : k < l.length), vsize l[k] ≤ 1099511627776 ∧ (num l.length ++ ((l.take k).map (putV sh)).flatten).length + (putV sh l[k]).length ≤ 1099511627785) := Lib.hid (fun k h => by
    have h1 := vsizes_get l k h
    have h2 := putMany_le sh (l.take k)
    have h4 := putV_le sh l[k]
    have h5 := num_le l.length
    refine ⟨by omega, ?_⟩
    rw [List.length_append]
    omega)
  have h110 : ((s[0].toNat : Int) == 110) = false := by rw [hb0]; rfl
  have h98 : ((s[0].toNat : Int) == 98) = false := by rw [hb0]; rfl
  have h42 : ((s[0].toNat : Int) == 42) = true := by rw [hb0]; rfl
  have h1s : (1 : Int) ≤ (s.size : Int) := by omega
  have hwr : IntKind.u64.wrap (l.length : Int) = (l.length : Int) := IntWalk.u64_in _ (by omega)
  obtain ⟨ib, hib, hib0, hib1, hib2⟩ := info_parts infoByte
  clear hv hb hvl hF hx hx' hsz' ih hb0 hi hll hl
  obtain ⟨W, hW⟩ : ∃ W, W = w.alloc (.cells #[.int .u64 (m : Int), .slice ba b.length bc, .slice la l.length lc] 31) := ⟨_, rfl⟩
  have HW : Hid (W = w.alloc (.cells #[.int .u64 (m : Int), .slice ba b.length bc, .slice la l.length lc] 31)) := Lib.hid hW
  have HX0 : Hid (W.heap[w.heap.size]? = some (.cells #[.int .u64 (m : Int), .slice ba b.length bc, .slice la l.length lc] 31)) := Lib.hid (by rw [hW]; exact heap_new _ _ _ rfl)
  have hwW : w.heap.size < W.heap.size := by rw [hW]; simp
  have HOLD : Hid (∀ j, F j → W.heap[j]? = w.heap[j]?) := Lib.hid (fun j hj => by rw [hW, Below.heap_alloc _ _ _ (HF.out j hj)])
  clear hW
  obtain ⟨c0, c1, c2, -, -, -, hz0⟩ := block3 HX0.out
  go_enter Try.func16, Try.ntmps16
  go_wp2_with fail
  rw [← HW.out]
  refine (HN.out _).mono ?_
  rintro r w1 ⟨u, rfl, hB, hown⟩
  have HO1 : Hid (OutAt W (num l.length) u w1) := Lib.hid ⟨hB, hown⟩
  obtain ⟨c0, c1, c2, -, -, -, hz1⟩ := block3 (old_below HX0.out hB)
  clear hB hown
  go_wp2_with fail
  clear c0 c1 c2 hwr hz0 hz1
  go_loopw [5, 6] (fun v0 i wr => ∃ k : Nat, i = .int .i64 (k : Int) ∧ k ≤ l.length ∧ OutAt W (num l.length ++ ((l.take k).map (putV sh)).flatten) v0 wr) (fun _ i _ => l.length - (intOf i).toNat)
  case atStart => exact ⟨0, rfl, Nat.zero_le _, by simpa using HO1.out⟩
  case round =>
    obtain ⟨k, rfl, hk, hO⟩ := hrel
    obtain ⟨c0, c1, c2, -, -, -, hz1⟩ := block3 (old_below HX0.out hO.1)
    have HO := Lib.hid hO
    have hszw := hO.1.size
    obtain ⟨va0, vc0, hv0⟩ := owned_slice hO.2
    subst hv0
    have HNO : Hid (∀ j, j < W.heap.size → (Value.slice va0 (num l.length ++ ((l.take k).map (putV sh)).flatten).length vc0).ownBlock ≠ some j) := Lib.hid (fun j hj h => by have := (HO.out.2.lt j h).1; omega)
    clear hO
    by_cases hk2 : k < l.length
    · have hkk : (k : Int) < (l.length : Int) := by omega
      obtain ⟨eb, eoff, ea, hFe, u, hat, hu⟩ := HV.out.elem k hk2
      subst ea
      have heb0 := HF.out eb hFe
      have hOLD : ∀ j, F j → wr.heap[j]? = w.heap[j]? := fun j hj => (HO.out.1.block j (Nat.lt_trans (HF.out j hj) hwW)).trans (HOLD.out j hj)
      obtain ⟨x0, x1, x2, rfl, e0, e1, e2⟩ := hat.same (w' := wr) (hOLD eb hFe)
      have heb : eb < wr.heap.size := by omega
      have HE : Hid (RepV wr F l[k] (.agg #[x0, x1, x2])) := Lib.hid (hu.same (fun _ h => h) hOLD)
      have HHO := Lib.hid hOLD
      clear hat hu hOLD
      go_wp2_with fail
      generalize hLL : num l.length ++ ((l.take k).map (putV sh)).flatten = LL at *
      refine wp_region_held (S := fun w' => wr.grownBy w' (Value.slice va0 LL.length vc0).ownBlock) (by kernel_rfl) ?_
      have hS : wr.grownBy wr.drew (Value.slice va0 LL.length vc0).ownBlock := gb_drew (gb_refl _ _)
      have q1 : ∀ w', wr.grownBy w' (Value.slice va0 LL.length vc0).ownBlock → w'.cell? ⟨w.heap.size, 2, none⟩ = some (.slice (some ⟨eb, eoff, none⟩) l.length lc) := fun w' hw' => grown_cell hw' hz1 (HNO.out _ hwW) c2
      have r0 : ∀ w', wr.grownBy w' (Value.slice va0 LL.length vc0).ownBlock → w'.cell? ⟨eb, eoff + k * 3, none⟩ = some x0 := fun w' hw' => grown_cell hw' heb (HNO.out _ (by omega)) e0
      have r1 : ∀ w', wr.grownBy w' (Value.slice va0 LL.length vc0).ownBlock → w'.cell? ⟨eb, eoff + k * 3 + 1, none⟩ = some x1 := fun w' hw' => grown_cell hw' heb (HNO.out _ (by omega)) e1
      have r2 : ∀ w', wr.grownBy w' (Value.slice va0 LL.length vc0).ownBlock → w'.cell? ⟨eb, eoff + k * 3 + 2, none⟩ = some x2 := fun w' hw' => grown_cell hw' heb (HNO.out _ (by omega)) e2
      have HLL := Lib.hid hLL
      clear e0 e1 e2 c0 c1 c2 hLL
      refine H_take (i := 0) (v := ?_) rfl (by as_aux_lemma => kernel_rfl) (by as_aux_lemma => kernel_rfl) (by as_aux_lemma => kernel_rfl) (fun _ _ _ h => h) (by rfl) hS ?_ ?_
      rotate_left
      · intro w' hw'; go_simp; with_reducible rfl
      go_simp
      refine H_take (i := 1) (v := ?_) rfl (by as_aux_lemma => kernel_rfl) (by as_aux_lemma => kernel_rfl) (by as_aux_lemma => kernel_rfl) (fun _ _ _ h => h) (by rfl) hS ?_ ?_
      rotate_left
      · intro w' hw'; go_simp; with_reducible rfl
      go_simp
      refine H_take (i := 2) (v := ?_) rfl (by as_aux_lemma => kernel_rfl) (by as_aux_lemma => kernel_rfl) (by as_aux_lemma => kernel_rfl) (fun _ _ _ h => h) (by rfl) hS ?_ ?_
      rotate_left
      · intro w' hw'; go_simp; with_reducible rfl
      go_simp
      refine H_take (i := 3) (v := ?_) rfl (by as_aux_lemma => kernel_rfl) (by as_aux_lemma => kernel_rfl) (by as_aux_lemma => kernel_rfl) (fun _ _ _ h => h) (by rfl) hS ?_ ?_
      rotate_left
      · intro w' hw'; go_simp; with_reducible rfl
      go_simp
      refine H_take (i := 4) (v := ?_) rfl (by as_aux_lemma => kernel_rfl) (by as_aux_lemma => kernel_rfl) (by as_aux_lemma => kernel_rfl) (fun _ _ _ h => h) (by rfl) hS ?_ ?_
      rotate_left
      · intro w' hw'; go_simp; with_reducible rfl
      go_simp
      refine H_take (i := 5) (v := ?_) rfl (by as_aux_lemma => kernel_rfl) (by as_aux_lemma => kernel_rfl) (by as_aux_lemma => kernel_rfl) (fun _ _ _ h => h) (by rfl) hS ?_ ?_
      rotate_left
      · intro w' hw'; go_simp; with_reducible rfl
      go_simp
      refine H_take (i := 6) (v := ?_) rfl (by as_aux_lemma => kernel_rfl) (by as_aux_lemma => kernel_rfl) (by as_aux_lemma => kernel_rfl) (fun _ _ _ h => h) (by rfl) hS ?_ ?_
      rotate_left
      · intro w' hw'; go_simp; with_reducible rfl
      go_simp
      refine H_take (i := 7) (v := ?_) rfl (by as_aux_lemma => kernel_rfl) (by as_aux_lemma => kernel_rfl) (by as_aux_lemma => kernel_rfl) (fun _ _ _ h => h) (by rfl) hS ?_ ?_
      rotate_left
      · intro w' hw'; go_simp; with_reducible rfl
      go_simp
      refine H_one (i := 8) (by as_aux_lemma => kernel_rfl) rfl (by rfl) ?_
      go_simp
      refine (HSUB.out l[k] _ wr.drew (HE.out.same (w := wr) (w' := wr.drew) (fun _ h => h) fun _ _ => rfl) (fun j hj => Nat.lt_of_lt_of_le (HF.out j hj) (by show w.heap.size ≤ wr.heap.size; omega)) (HALL.out k hk2) (HSL.out k hk2).1).mono ?_
      rintro r w2 ⟨pa, pc, rfl, hP⟩
      have hB2 : Below wr.heap.size wr w2 := (Below.refl _ _).drew.trans hP.1
      have hS1 : wr.grownBy w2 (Value.slice va0 LL.length vc0).ownBlock := gb_other _ (grown_of_below hB2)
      have HO2 := Lib.hid (HO.out.next hB2)
      have HY2 : Hid (Yields w2 (.slice pa (putV sh l[k]).length pc) (putV sh l[k]).length 1 ((putV sh l[k]).map byteV)) := Lib.hid (RepB.of_own hP.2).yields
      have hbs : W.heap.size ≤ w2.heap.size := Nat.le_trans hszw hB2.size
      clear hP hB2
      refine ⟨hS1, ?_⟩
      go_simp
      refine H_one (i := 9) (by as_aux_lemma => kernel_rfl) rfl (by rfl) ?_
      refine wp_append_any _ _ _ 29 rfl W.heap.size 5 ib (.int .u8 0) 1 1 Try.underlying29 hib hib0 hib1 hib2 rfl (by decide) _ LL.length (LL.map byteV) rfl HO2.out.2 (.slice pa (putV sh l[k]).length pc) rfl (putV sh l[k]).length ((putV sh l[k]).map byteV) HY2.out (by have := (HSL.out k hk2).2; rw [HLL.out] at this; unfold maxLen; omega) (by have := (HSL.out k hk2).2; rw [HLL.out] at this; omega) hbs ?_
      intro v3 w3 happ
      have hS2 : wr.grownBy w3 (Value.slice va0 LL.length vc0).ownBlock := gb_trans hS1 happ.2.1
      have hO3 := HO2.out.app happ
      have HO3 : Hid (OutAt W (num l.length ++ ((l.take (k + 1)).map (putV sh)).flatten) v3 w3) := Lib.hid (by
        rw [putMany_take l k hk2, ← List.append_assoc, HLL.out]; exact hO3)
      clear happ hO3
      refine ⟨hS2, ?_⟩
      go_simp
      refine H_take (i := 10) (v := ?_) rfl (by as_aux_lemma => kernel_rfl) (by as_aux_lemma => kernel_rfl) (by as_aux_lemma => kernel_rfl) (fun _ _ _ h => h) (by rfl) hS2 ?_ ?_
      rotate_left
      · intro w' hw'; go_simp; with_reducible rfl
      go_simp
      refine wpAnyH_done (by as_aux_lemma => kernel_rfl) ?_ _
      clear q1 r0 r1 r2 hS hS1 hS2
      go_wp2_with fail
      go_roundw
      case rel => exact ⟨k + 1, by go_num, by omega, HO3.out⟩
      case measure => simp [intOf]; omega
    · have hkk : ¬ (k : Int) < (l.length : Int) := by omega
      have hkl : k = l.length := by omega
      have HEND : Hid (num l.length ++ ((l.take k).map (putV sh)).flatten = putV (.list sh) (.mk m b l)) := Lib.hid (by rw [hkl, List.take_length, putV]; rfl)
      clear hkl
      generalize hLL : num l.length ++ ((l.take k).map (putV sh)).flatten = LL at *
      clear hLL
      go_wp2_with fail
      go_ret
      have h9 := HO.out
      rw [HW.out] at h9
      rw [← HEND.out]
      exact .of h9.unbox
theorem putVs_le2 (ls : List Sh) (l : List V) (k : Nat) (h1 : k < ls.length) (h2 : k < l.length) : (putVs (ls.take k) (l.take k)).length + (putV ls[k] l[k]).length ≤ vsizes l := by
  have h3 := putVs_le (ls.take k) (l.take k)
  have h4 := putV_le ls[k] l[k]
  have h5 := vsizes_get l k h2
  omega

set_option maxHeartbeats 3200000 in
theorem put_row {n : Nat} (ih : ∀ m, m < n → PutSaid m) (s : ByteArray) (e : Nat) (ls : List Sh) (d : V) (F : Nat → Prop) (v : Value) (w : World) (hn : s.size ≤ n) (hs : s.size ≤ 64) (hx : Exact e s.data.toList (.row ls)) (he : e ≤ 9) (hv : RepV w F d v)
    (hF : ∀ b, F b → b < w.heap.size) (hi : isV (.row ls) d = true) (hl : vsize d ≤ 1099511627776) : Calls Try.prog 16 #[.string s, v] w (PutRes w (putV (.row ls) d)) := by
  obtain ⟨h0, hb0⟩ := first_byte hx
  obtain ⟨e', ts, rfl, ht, hf, htl, hts, hsub⟩ := row_texts hx
  have HSUB : Hid (∀ k (hk : k < ts.length) (hk2 : k < ls.length) (x : V) (u : Value) (w : World), RepV w F x u → (∀ b, F b → b < w.heap.size) → isV ls[k] x = true → vsize x ≤ 1099511627776 → Calls Try.prog 16 #[.string (strOf ts[k]), u] w (PutRes w (putV ls[k] x))) :=
    Lib.hid (fun k hk hk2 x u w h1 h2 h3 h4 => ih (strOf ts[k]).size (by have := (hsub k hk hk2).1; omega) _ e' ls[k] x F u w (Nat.le_refl _) (by have := (hsub k hk hk2).1; omega) (hsub k hk hk2).2 (by omega) h1 h2 h3 h4)
  have HROWS := Lib.hid (fun w => rows_any s e' ts ls w hs ht hf (by omega))
  obtain ⟨m, b, l⟩ := d
  obtain ⟨vb, vl, rfl, hm, hb, hvl⟩ := RepV_mk.1 hv
  obtain ⟨ba, bc, rfl, -⟩ := hb.slice
  obtain ⟨la, lc, rfl, hlen⟩ := hvl.slice
  simp only [vsize] at hl
  rw [isV] at hi
  simp only [V.l] at hi
  have hll := isVs_length ls l hi
  have HALL : Hid (∀ k (h1 : k < ls.length) (h2 : k < l.length), isV ls[k] l[k] = true) := Lib.hid (fun k h1 h2 => isVs_get ls l k h1 h2 hi)
  have HV := Lib.hid hvl
  have HF := Lib.hid hF
  have HSL : Hid (∀ k (h1 : k < ls.length) (h2 : k < l.length), vsize l[k] ≤ 1099511627776 ∧ (putVs (ls.take k) (l.take k)).length + (putV ls[k] l[k]).length ≤ 1099511627785) := Lib.hid (fun k h1 h2 => by
    have h3 := vsizes_get l k h2
    have h4 := putVs_le2 ls l k h1 h2
    exact ⟨by omega, by omega⟩)
  have HLL := Lib.hid hll
  have HTL := Lib.hid htl
  have h110 : ((s[0].toNat : Int) == 110) = false := by rw [hb0]; rfl
  have h98 : ((s[0].toNat : Int) == 98) = false := by rw [hb0]; rfl
  have h42 : ((s[0].toNat : Int) == 42) = false := by rw [hb0]; rfl
  obtain ⟨ib, hib, hib0, hib1, hib2⟩ := info_parts infoByte
  clear hv hb hvl hF hx ht hf htl hsub ih hb0 hi hll hl
  obtain ⟨W, hW⟩ : ∃ W, W = w.alloc (.cells #[.int .u64 (m : Int), .slice ba b.length bc, .slice la l.length lc] 31) := ⟨_, rfl⟩
  have HW : Hid (W = w.alloc (.cells #[.int .u64 (m : Int), .slice ba b.length bc, .slice la l.length lc] 31)) := Lib.hid hW
  have HX0 : Hid (W.heap[w.heap.size]? = some (.cells #[.int .u64 (m : Int), .slice ba b.length bc, .slice la l.length lc] 31)) := Lib.hid (by rw [hW]; exact heap_new _ _ _ rfl)
  have hwW : w.heap.size < W.heap.size := by rw [hW]; simp
  have HOLD : Hid (∀ j, F j → W.heap[j]? = w.heap[j]?) := Lib.hid (fun j hj => by rw [hW, Below.heap_alloc _ _ _ (HF.out j hj)])
  clear hW
  obtain ⟨c0, c1, c2, -, -, -, hz0⟩ := block3 HX0.out
  go_enter Try.func16, Try.ntmps16
  go_wp2_with fail
  rw [← HW.out]
  refine (HROWS.out _).mono ?_
  rintro r w1 ⟨rv, rfl, hB, hown⟩
  obtain ⟨ra, rc, rfl⟩ := owned_slice hown
  have HB1 := Lib.hid hB
  have HRO := Lib.hid hown
  obtain ⟨c0, c1, c2, -, -, -, hz1⟩ := block3 (old_below HX0.out hB)
  clear hB hown
  go_wp2_with fail
  clear c0 c1 c2 hz0 hz1
  go_loopw [8, 9] (fun v0 i wr => ∃ k : Nat, i = .int .i64 (k : Int) ∧ k ≤ ts.length ∧ Below w1.heap.size w1 wr ∧ wr.ownsRow w1.heap.size 5 1 v0 (putVs (ls.take k) (l.take k)).length ((putVs (ls.take k) (l.take k)).map byteV)) (fun _ i _ => ts.length - (intOf i).toNat)
  case atStart => exact ⟨0, rfl, Nat.zero_le _, Below.refl _ _, by rw [List.take_zero, List.take_zero]; exact World.ownsRow_nil _ _ _ _⟩
  case round =>
    obtain ⟨k, rfl, hk, hO⟩ := hrel
    replace hO : OutAt w1 (putVs (ls.take k) (l.take k)) u8 wr := hO
    obtain ⟨c0, c1, c2, -, -, -, hz1⟩ := block3 (old_below (old_below HX0.out HB1.out) hO.1)
    have HO := Lib.hid hO
    have hszw := hO.1.size
    have hszW := HB1.out.size
    obtain ⟨va0, vc0, hv0⟩ := owned_slice hO.2
    subst hv0
    have HNO : Hid (∀ j, j < w1.heap.size → (Value.slice va0 (putVs (ls.take k) (l.take k)).length vc0).ownBlock ≠ some j) := Lib.hid (fun j hj h => by have := (HO.out.2.lt j h).1; omega)
    clear hO
    by_cases hk2 : k < ts.length
    · have hkk : (k : Int) < (ts.length : Int) := by omega
      have hkls : k < ls.length := by rw [← HTL.out]; exact hk2
      have hkl : k < l.length := by rw [← HLL.out]; exact hkls
      have hkk2 : (k : Int) < (l.length : Int) := by omega
      obtain ⟨eb, eoff, ea, hFe, u, hat, hu⟩ := HV.out.elem k hkl
      subst ea
      have heb0 := HF.out eb hFe
      have hOLD : ∀ j, F j → wr.heap[j]? = w.heap[j]? := fun j hj => ((HO.out.1.block j (by have := HF.out j hj; omega)).trans (HB1.out.block j (Nat.lt_trans (HF.out j hj) hwW))).trans (HOLD.out j hj)
      obtain ⟨x0, x1, x2, rfl, e0, e1, e2⟩ := hat.same (w' := wr) (hOLD eb hFe)
      have heb : eb < wr.heap.size := by omega
      have HE : Hid (RepV wr F l[k] (.agg #[x0, x1, x2])) := Lib.hid (hu.same (fun _ h => h) hOLD)
      obtain ⟨gb, gc, hgv, hgb1, hgb2, hgcell⟩ := owned_str HRO.out rfl k hk2
      cases hgv
      have g0 : wr.cell? ⟨gb, 0 + k, none⟩ = some (.string (strOf ts[k])) := (HO.out.1.cell (p := ⟨gb, 0 + k, none⟩) hgb2).trans hgcell
      rw [Nat.zero_add] at g0
      have hgb3 : gb < wr.heap.size := by omega
      clear hat hu hOLD hgcell
      go_wp2_with fail
      generalize hLL : putVs (ls.take k) (l.take k) = LL at *
      refine wp_region_held (S := fun w' => wr.grownBy w' (Value.slice va0 LL.length vc0).ownBlock) (by kernel_rfl) ?_
      have hS : wr.grownBy wr.drew (Value.slice va0 LL.length vc0).ownBlock := gb_drew (gb_refl _ _)
      have q1 : ∀ w', wr.grownBy w' (Value.slice va0 LL.length vc0).ownBlock → w'.cell? ⟨w.heap.size, 2, none⟩ = some (.slice (some ⟨eb, eoff, none⟩) l.length lc) := fun w' hw' => grown_cell hw' hz1 (HNO.out _ (by omega)) c2
      have q2 : ∀ w', wr.grownBy w' (Value.slice va0 LL.length vc0).ownBlock → w'.cell? ⟨gb, k, none⟩ = some (.string (strOf ts[k])) := fun w' hw' => grown_cell hw' hgb3 (HNO.out _ (by omega)) g0
      have r0 : ∀ w', wr.grownBy w' (Value.slice va0 LL.length vc0).ownBlock → w'.cell? ⟨eb, eoff + k * 3, none⟩ = some x0 := fun w' hw' => grown_cell hw' heb (HNO.out _ (by omega)) e0
      have r1 : ∀ w', wr.grownBy w' (Value.slice va0 LL.length vc0).ownBlock → w'.cell? ⟨eb, eoff + k * 3 + 1, none⟩ = some x1 := fun w' hw' => grown_cell hw' heb (HNO.out _ (by omega)) e1
      have r2 : ∀ w', wr.grownBy w' (Value.slice va0 LL.length vc0).ownBlock → w'.cell? ⟨eb, eoff + k * 3 + 2, none⟩ = some x2 := fun w' hw' => grown_cell hw' heb (HNO.out _ (by omega)) e2
      have HPL := Lib.hid hLL
      clear e0 e1 e2 c0 c1 c2 g0 hLL
      refine H_take (i := 0) (v := ?_) rfl (by as_aux_lemma => kernel_rfl) (by as_aux_lemma => kernel_rfl) (by as_aux_lemma => kernel_rfl) (fun _ _ _ h => h) (by rfl) hS ?_ ?_
      rotate_left
      · intro w' hw'; go_simp; with_reducible rfl
      go_simp
      refine H_take (i := 1) (v := ?_) rfl (by as_aux_lemma => kernel_rfl) (by as_aux_lemma => kernel_rfl) (by as_aux_lemma => kernel_rfl) (fun _ _ _ h => h) (by rfl) hS ?_ ?_
      rotate_left
      · intro w' hw'; go_simp; with_reducible rfl
      go_simp
      refine H_take (i := 2) (v := ?_) rfl (by as_aux_lemma => kernel_rfl) (by as_aux_lemma => kernel_rfl) (by as_aux_lemma => kernel_rfl) (fun _ _ _ h => h) (by rfl) hS ?_ ?_
      rotate_left
      · intro w' hw'; go_simp; with_reducible rfl
      go_simp
      refine H_take (i := 3) (v := ?_) rfl (by as_aux_lemma => kernel_rfl) (by as_aux_lemma => kernel_rfl) (by as_aux_lemma => kernel_rfl) (fun _ _ _ h => h) (by rfl) hS ?_ ?_
      rotate_left
      · intro w' hw'; go_simp; with_reducible rfl
      go_simp
      refine H_take (i := 4) (v := ?_) rfl (by as_aux_lemma => kernel_rfl) (by as_aux_lemma => kernel_rfl) (by as_aux_lemma => kernel_rfl) (fun _ _ _ h => h) (by rfl) hS ?_ ?_
      rotate_left
      · intro w' hw'; go_simp; with_reducible rfl
      go_simp
      refine H_take (i := 5) (v := ?_) rfl (by as_aux_lemma => kernel_rfl) (by as_aux_lemma => kernel_rfl) (by as_aux_lemma => kernel_rfl) (fun _ _ _ h => h) (by rfl) hS ?_ ?_
      rotate_left
      · intro w' hw'; go_simp; with_reducible rfl
      go_simp
      refine H_take (i := 6) (v := ?_) rfl (by as_aux_lemma => kernel_rfl) (by as_aux_lemma => kernel_rfl) (by as_aux_lemma => kernel_rfl) (fun _ _ _ h => h) (by rfl) hS ?_ ?_
      rotate_left
      · intro w' hw'; go_simp; with_reducible rfl
      go_simp
      refine H_take (i := 7) (v := ?_) rfl (by as_aux_lemma => kernel_rfl) (by as_aux_lemma => kernel_rfl) (by as_aux_lemma => kernel_rfl) (fun _ _ _ h => h) (by rfl) hS ?_ ?_
      rotate_left
      · intro w' hw'; go_simp; with_reducible rfl
      go_simp
      refine H_take (i := 8) (v := ?_) rfl (by as_aux_lemma => kernel_rfl) (by as_aux_lemma => kernel_rfl) (by as_aux_lemma => kernel_rfl) (fun _ _ _ h => h) (by rfl) hS ?_ ?_
      rotate_left
      · intro w' hw'; go_simp; with_reducible rfl
      go_simp
      refine H_take (i := 9) (v := ?_) rfl (by as_aux_lemma => kernel_rfl) (by as_aux_lemma => kernel_rfl) (by as_aux_lemma => kernel_rfl) (fun _ _ _ h => h) (by rfl) hS ?_ ?_
      rotate_left
      · intro w' hw'; go_simp; with_reducible rfl
      go_simp
      refine H_one (i := 10) (by as_aux_lemma => kernel_rfl) rfl (by rfl) ?_
      go_simp
      refine (HSUB.out k hk2 hkls l[k] _ wr.drew (HE.out.same (w := wr) (w' := wr.drew) (fun _ h => h) fun _ _ => rfl) (fun j hj => Nat.lt_of_lt_of_le (HF.out j hj) (by show w.heap.size ≤ wr.heap.size; omega)) (HALL.out k hkls hkl) (HSL.out k hkls hkl).1).mono ?_
      rintro r w2 ⟨pa, pc, rfl, hP⟩
      have hB2 : Below wr.heap.size wr w2 := (Below.refl _ _).drew.trans hP.1
      have hS1 : wr.grownBy w2 (Value.slice va0 LL.length vc0).ownBlock := gb_other _ (grown_of_below hB2)
      have HO2 := Lib.hid (HO.out.next hB2)
      have HY2 : Hid (Yields w2 (.slice pa (putV ls[k] l[k]).length pc) (putV ls[k] l[k]).length 1 ((putV ls[k] l[k]).map byteV)) := Lib.hid (RepB.of_own hP.2).yields
      have hbs : w1.heap.size ≤ w2.heap.size := Nat.le_trans hszw hB2.size
      clear hP hB2
      refine ⟨hS1, ?_⟩
      go_simp
      refine H_one (i := 11) (by as_aux_lemma => kernel_rfl) rfl (by rfl) ?_
      refine wp_append_any _ _ _ 29 rfl w1.heap.size 5 ib (.int .u8 0) 1 1 Try.underlying29 hib hib0 hib1 hib2 rfl (by decide) _ LL.length (LL.map byteV) rfl HO2.out.2 (.slice pa (putV ls[k] l[k]).length pc) rfl (putV ls[k] l[k]).length ((putV ls[k] l[k]).map byteV) HY2.out (by have := (HSL.out k hkls hkl).2; rw [HPL.out] at this; unfold maxLen; omega) (by have := (HSL.out k hkls hkl).2; rw [HPL.out] at this; omega) hbs ?_
      intro v3 w3 happ
      have hS2 : wr.grownBy w3 (Value.slice va0 LL.length vc0).ownBlock := gb_trans hS1 happ.2.1
      have hO3 := HO2.out.app happ
      have HO3 : Hid (OutAt w1 (putVs (ls.take (k + 1)) (l.take (k + 1))) v3 w3) := Lib.hid (by
        rw [putVs_step ls l k hkls hkl, HPL.out]; exact hO3)
      clear happ hO3
      refine ⟨hS2, ?_⟩
      go_simp
      refine H_take (i := 12) (v := ?_) rfl (by as_aux_lemma => kernel_rfl) (by as_aux_lemma => kernel_rfl) (by as_aux_lemma => kernel_rfl) (fun _ _ _ h => h) (by rfl) hS2 ?_ ?_
      rotate_left
      · intro w' hw'; go_simp; with_reducible rfl
      go_simp
      refine wpAnyH_done (by as_aux_lemma => kernel_rfl) ?_ _
      clear q1 q2 r0 r1 r2 hS hS1 hS2
      go_wp2_with fail
      go_roundw
      case rel => exact ⟨k + 1, by go_num, by omega, HO3.out.1, HO3.out.2⟩
      case measure => simp [intOf]; omega
    · have hkk : ¬ (k : Int) < (ts.length : Int) := by omega
      have hkl : k = ls.length := by rw [← HTL.out]; omega
      have HEND : Hid (putVs (ls.take k) (l.take k) = putV (.row ls) (.mk m b l)) := Lib.hid (by
        rw [List.take_of_length_le (by omega), List.take_of_length_le (by rw [← HLL.out]; omega), putV]; rfl)
      clear hkl c0 c1 c2
      generalize hLL : putVs (ls.take k) (l.take k) = LL at *
      clear hLL
      go_wp2_with fail
      go_ret
      have h9 : OutAt W LL (.slice va0 LL.length vc0) wr := ⟨HB1.out.trans (HO.out.1.mono HB1.out.size), ownsRow_base HO.out.2 HB1.out.size⟩
      rw [HW.out] at h9
      rw [← HEND.out]
      exact .of h9.unbox

theorem put_of {n : Nat} (ih : ∀ m, m < n → PutSaid m) : PutSaid n := by
  intro s e sh d F v w hn hs hx he hv hF hi hl
  cases sh with
  | list sh => exact put_list ih s e sh d F v w hn hs hx he hv hF hi hl
  | row ls => exact put_row ih s e ls d F v w hn hs hx he hv hF hi hl
  | num => exact put_num1 s e d F v w hx hv
  | blob => exact put_blob s e d F v w hx hv hF hl

theorem Put_sized : ∀ (n : Nat), PutSaid n := fun n => Nat.strongRecOn n fun _ ih => put_of ih

theorem RefPut_any {s : ByteArray} {sh : Sh} (h : shape s.data.toList = some sh) (d : V) (F : Nat → Prop) (v : Value) (w : World) (hv : RepV w F d v) (hF : ∀ b, F b → b < w.heap.size) (hi : isV sh d = true) (hl : vsize d ≤ 1099511627776) :
    Calls Try.prog 16 #[.string s, v] w (PutRes w (putV sh d)) := by
  obtain ⟨h1, h2⟩ := exact_shape h
  exact Put_sized s.size s 9 sh d F v w (Nat.le_refl _) (by simpa using h2) h1 (by omega) hv hF hi hl
end Go.Proofs.Ytafodaoehnggfaa.M
