/- The document's Copy. -/
import Derived.Test.YtafodaoehnggfaaOpenVal
import Derived.Test.YtafodaoehnggfaaMouldTake4
import Derived.OrdersHeld
import Derived.Deep.RegionHeld
namespace Go.Proofs.Ytafodaoehnggfaa.M
open Go.RowKit

section
variable {P : Program} {ops : Array Oper} {Q : Exit → Act → World → Prop} {md : Region.Mode} {S : World → Prop} {fuel : Nat} {listed : Array Bool} {a : Act} {w : World} {i j : Nat} {oi oj : Oper}

/-- One of two operations comes up next, whichever. -/
theorem H_two (hr : Region.ready md ops listed = [i, j]) (hi : ops[i]? = some oi) (hj : ops[j]? = some oj) (hwi : Region.wanted oi (yielded ops a.tmps) = true) (hwj : Region.wanted oj (yielded ops a.tmps) = true)
    (h1 : oi.wp P a w (fun a' w' => S w' ∧ wpAnyH P md ops Q S fuel (listed.setIfInBounds i true) a' w') Q)
    (h2 : oj.wp P a w (fun a' w' => S w' ∧ wpAnyH P md ops Q S fuel (listed.setIfInBounds j true) a' w') Q) : wpAnyH P md ops Q S (fuel + 1) listed a w :=
  wpAnyH_ready hr (by simp) (AllReadyH.cons hi (fun K' hK => by rw [if_pos hwi]; exact Oper.wp_mono (fun a w h => hK.out a w h.1 fun _ => h.2) h1)
    (AllReadyH.cons hj (fun K' hK => by rw [if_pos hwj]; exact Oper.wp_mono (fun a w h => hK.out a w h.1 fun _ => h.2) h2) AllReadyH.nil))
end

/-- All but two blocks stand. -/
structure Loose (w w' : World) (own : Option Nat) (bx : Nat) : Prop where
  os : w'.os = w.os
  tape : w'.tape = w.tape
  output : w'.output = w.output
  size : w.heap.size ≤ w'.heap.size
  block : ∀ k, k < w.heap.size → own ≠ some k → k ≠ bx → w'.heap[k]? = w.heap[k]?

theorem Loose.of_below {w w' : World} {own : Option Nat} {bx : Nat} (h : Below w.heap.size w w') : Loose w w' own bx := ⟨h.os, h.tape, h.output, h.size, fun k hk _ _ => h.block k hk⟩

theorem Loose.grown {w w1 w' : World} {own : Option Nat} {bx : Nat} (h : Loose w w1 own bx) (hg : w1.grownBy w' own) : Loose w w' own bx :=
  ⟨hg.os.trans h.os, hg.tape.trans h.tape, hg.output.trans h.output, Nat.le_trans h.size hg.size, fun k hk h1 h2 => (hg.block k (Nat.lt_of_lt_of_le hk h.size) (fun e => h1 e.symm)).trans (h.block k hk h1 h2)⟩

theorem Loose.set {w w1 : World} {own : Option Nat} {bx o : Nat} {v : Value} (h : Loose w w1 own bx) : Loose w (w1.setCell ⟨bx, o, none⟩ v) own bx :=
  ⟨h.os, h.tape, h.output, by simpa using h.size, fun k hk h1 h2 => by rw [Below.heap_setCell _ _ _ _ (by simpa using h2)]; exact h.block k hk h1 h2⟩

theorem Loose.cell {w w' : World} {own : Option Nat} {bx b o : Nat} (h : Loose w w' own bx) (hb : b < w.heap.size) (h1 : own ≠ some b) (h2 : b ≠ bx) : w'.cell? ⟨b, o, none⟩ = w.cell? ⟨b, o, none⟩ :=
  World.cell?_of_block (h.block b hb h1 h2)

/-- The state at the head of the loop over a value's parts. -/
structure CopyAt (w : World) (o1 : Obj) (n : Int) (b : List UInt8) (ba : Option Addr) (bc : Nat) (la : Option Addr) (lc : Nat) (ds : List V) (wr : World) : Prop where
  below : Below w.heap.size w wr
  box1 : wr.heap[w.heap.size]? = some o1
  box2 : wr.heap[w.heap.size + 1]? = some (.cells #[.int .u64 0, .slice none 0 0, .slice none 0 0] 31)
  box3 : wr.heap[w.heap.size + 2]? = some (.cells #[.int .u64 n, .slice ba b.length bc, .slice la ds.length lc] 31)
  bytes : RepB wr (fun j => w.heap.size + 3 ≤ j ∧ j < wr.heap.size ∧ (Value.slice la ds.length lc).ownBlock ≠ some j) b (.slice ba b.length bc)
  owns : ∃ xs, wr.ownsRow (w.heap.size + 3) 31 3 (.slice la ds.length lc) ds.length xs ∧ Kids (RepV wr fun j => w.heap.size + 3 ≤ j ∧ j < wr.heap.size ∧ (Value.slice la ds.length lc).ownBlock ≠ some j) ds xs

theorem CopyAt.next {w wr w1 : World} {o1 : Obj} {n : Int} {b : List UInt8} {ba : Option Addr} {bc : Nat} {la : Option Addr} {lc : Nat} {ds : List V} (h : CopyAt w o1 n b ba bc la lc ds wr) (hb : Below wr.heap.size wr w1) :
    CopyAt w o1 n b ba bc la lc ds w1 := by
  obtain ⟨h0, h1, h2, h3, h4, xs, hown, hk⟩ := h
  have hz := lt_of_heap h3
  refine ⟨h0.trans (hb.mono h0.size), (hb.block _ (by omega)).trans h1, (hb.block _ (by omega)).trans h2, (hb.block _ hz).trans h3, h4.same ?_ ?_, xs, hown.kept (grown_of_below hb) ?_, hk.mono fun s u hu => hu.same ?_ ?_⟩
  · intro j ⟨a1, a2, a3⟩; exact ⟨a1, Nat.lt_of_lt_of_le a2 hb.size, a3⟩
  · intro j ⟨a1, a2, a3⟩; exact hb.block j a2
  · cases (Value.slice la ds.length lc).ownBlock <;> simp
  · intro j ⟨a1, a2, a3⟩; exact ⟨a1, Nat.lt_of_lt_of_le a2 hb.size, a3⟩
  · intro j ⟨a1, a2, a3⟩; exact hb.block j a2

/-- One part more. -/
theorem CopyAt.push {w w1 w4 : World} {o1 o2 : Obj} {n : Int} {b : List UInt8} {ba : Option Addr} {bc : Nat} {la la' : Option Addr} {lc lc' lo m : Nat} {ds : List V} {d : V} {x y z : Value} {xs : List Value}
    (h : CopyAt w o1 n b ba bc la lc ds w1) (hd : RepV w1 (fun j => lo ≤ j ∧ j < w1.heap.size) d (.agg #[x, y, z])) (hlo : w.heap.size + 3 ≤ lo) (hlo2 : ∀ k, (Value.slice la ds.length lc).ownBlock = some k → k < lo)
    (hown1 : w1.ownsRow (w.heap.size + 3) 31 3 (.slice la ds.length lc) ds.length xs) (hkids : Kids (RepV w1 fun j => w.heap.size + 3 ≤ j ∧ j < w1.heap.size ∧ (Value.slice la ds.length lc).ownBlock ≠ some j) ds xs)
    (hown : w4.ownsRow (w.heap.size + 3) 31 3 (.slice la' m lc') (ds.length + 1) (xs ++ [x, y, z])) (hm : m = ds.length + 1)
    (hg : (w1.alloc o2).grownBy w4 (Value.slice la ds.length lc).ownBlock)
    (hwhere : (Value.slice la' m lc').ownBlock = (Value.slice la ds.length lc).ownBlock ∨ (Value.slice la' m lc').ownBlock = some (w1.heap.size + 1)) :
    CopyAt w o1 n b ba bc la' lc' (ds ++ [d]) (w4.setCell ⟨w.heap.size + 2, 2, none⟩ (.slice la' m lc')) := by
  subst hm
  obtain ⟨h0, h1, h2, h3, h4, _⟩ := h
  have hz := hg.size
  simp at hz
  have hz3 := lt_of_heap h3
  have hne : ∀ k, k < w.heap.size + 3 → (Value.slice la ds.length lc).ownBlock ≠ some k := fun k hk h => by
    have := (hown1.lt k h).1; omega
  have hkeep : ∀ k, k < w1.heap.size → (Value.slice la ds.length lc).ownBlock ≠ some k → w4.heap[k]? = w1.heap[k]? := fun k hk hn => by
    rw [hg.block k (by simp; omega) (fun h => hn h.symm), Below.heap_alloc _ _ _ hk]
  have hkeep2 : ∀ k, k < w1.heap.size → (Value.slice la ds.length lc).ownBlock ≠ some k → k ≠ w.heap.size + 2 → (w4.setCell ⟨w.heap.size + 2, 2, none⟩ (.slice la' (ds.length + 1) lc')).heap[k]? = w1.heap[k]? := fun k hk hn h2 => by
    rw [Below.heap_setCell _ _ _ _ (by simpa using h2)]; exact hkeep k hk hn
  have hnew : ∀ j, j < w1.heap.size → (Value.slice la ds.length lc).ownBlock ≠ some j → (Value.slice la' (ds.length + 1) lc').ownBlock ≠ some j := fun j hj hn h => by
    rcases hwhere with h5 | h5
    · exact hn (h5.symm.trans h)
    · rw [h] at h5; simp at h5; omega
  have hl : (ds ++ [d]).length = ds.length + 1 := by simp
  refine ⟨⟨hg.os.trans h0.os, hg.tape.trans h0.tape, hg.output.trans h0.output, by have := h0.size; simp; omega, fun k hk => ?_⟩, (hkeep2 _ (by omega) (hne _ (by omega)) (by omega)).trans h1, (hkeep2 _ (by omega) (hne _ (by omega)) (by omega)).trans h2, ?_, ?_, xs ++ [x, y, z], ?_, ?_⟩
  · have := h0.size
    rw [hkeep2 k (by omega) (hne k (by omega)) (by omega)]
    exact h0.block k hk
  · have h5 : w4.heap[w.heap.size + 2]? = _ := (hkeep _ hz3 (hne _ (by omega))).trans h3
    rw [hl, heap_setCell_same _ _ _ _ _ _ h5]
    simp
  · rw [hl]
    refine h4.same ?_ ?_
    · intro j ⟨a1, a2, a3⟩; exact ⟨a1, by simp; omega, hnew j a2 a3⟩
    · intro j ⟨a1, a2, a3⟩; exact hkeep2 j a2 a3 (by omega)
  · rw [hl]; exact ownsRow_setCell_below hown (by simp) _
  · rw [hl]
    refine Kids.snoc (hd.same ?_ ?_) (hkids.mono fun s u hu => hu.same ?_ ?_)
    · intro j ⟨a1, a2⟩; exact ⟨by omega, by simp; omega, hnew j a2 fun h => by have := hlo2 j h; omega⟩
    · intro j ⟨a1, a2⟩; exact hkeep2 j a2 (fun h => by have := hlo2 j h; omega) (by omega)
    · intro j ⟨a1, a2, a3⟩; exact ⟨a1, by simp; omega, hnew j a2 a3⟩
    · intro j ⟨a1, a2, a3⟩; exact hkeep2 j a2 a3 (by omega)

/-- What is made so far, as a value. -/
theorem CopyAt.val {w wr : World} {o1 : Obj} {n : Nat} {b : List UInt8} {ba : Option Addr} {bc : Nat} {la : Option Addr} {lc : Nat} {ds : List V} (h : CopyAt w o1 (n : Int) b ba bc la lc ds wr) (hn : n < 18446744073709551616) :
    RepV wr (fun j => w.heap.size + 3 ≤ j ∧ j < wr.heap.size) (.mk n b ds) (.agg #[.int .u64 (n : Int), .slice ba b.length bc, .slice la ds.length lc]) := by
  obtain ⟨xs, hown, hk⟩ := h.owns
  refine RepV_mk.2 ⟨_, _, rfl, hn, h.bytes.same (fun j hj => ⟨hj.1, hj.2.1⟩) fun _ _ => rfl, ?_⟩
  rcases owned_kids hown hk with h1 | ⟨g, c', hv, ho, hg, hlt, h3, h4, hx⟩
  · exact .inl ⟨h1.1, by rw [h1.2]; exact Bare.nil⟩
  · refine .inr ⟨g, 0, c', hv, ⟨hg, hlt⟩, h3, h4, RepVs.of ds fun i hi => ?_⟩
    obtain ⟨u, ha, hu⟩ := hx i hi
    exact ⟨u, ha, hu.same (fun k h => ⟨h.1, h.2.1⟩) fun _ _ => rfl⟩

def CopySaid (d : V) : Prop := ∀ (F : Nat → Prop) (v : Value) (w : World), RepV w F d v → (∀ b, F b → b < w.heap.size) → vsize d ≤ 1099511627776 →
  Calls Try.prog 11 #[v] w fun e w' => ∃ u, e = .returned u ∧ Below w.heap.size w w' ∧ RepV w' (fun b => w.heap.size ≤ b ∧ b < w'.heap.size) d u

theorem vsizes_len : ∀ (l : List V), l.length ≤ vsizes l
  | [] => by simp
  | .mk n b l' :: l => by
    have := vsizes_len l
    simp only [List.length_cons, vsizes, vsize]
    omega

def CopyRel (w : World) (o1 : Obj) (n : Nat) (b : List UInt8) (l : List V) (k : Nat) (wr : World) : Prop :=
  k ≤ l.length ∧ ∃ ba bc la lc, CopyAt w o1 (n : Int) b ba bc la lc (l.take k) wr

set_option maxHeartbeats 3200000 in
theorem copy_of (n : Nat) (b : List UInt8) (l : List V) (hl : ∀ (k : Nat) (h : k < l.length), CopySaid l[k]) : CopySaid (.mk n b l) := by
  intro F v w hv hF hsz
  obtain ⟨vb, vl, rfl, hn, hb, hvl⟩ := RepV_mk.1 hv
  obtain ⟨ba, bc, rfl, -⟩ := hb.slice
  obtain ⟨la, lc, rfl, hlen⟩ := hvl.slice
  simp only [vsize] at hsz
  have HV := Lib.hid hvl
  have HBY := Lib.hid hb
  have HL := Lib.hid hl
  have HF := Lib.hid hF
  clear hv hb hvl hl hF
  obtain ⟨ib, hib, hib0, hib1, hib2⟩ := info_parts infoByte
  obtain ⟨iv, hiv, hiv0, hiv1, hiv2⟩ := info_parts infoVal
  go_enter Try.func11, Try.ntmps11
  go_wp2_with (at_builtin; refine wpList_append_any _ rfl _ _ 29 rfl (w.heap.size + 3) 5 ib (.int .u8 0) 1 1 Try.underlying29 hib hib0 hib1 hib2 rfl (by decide) _ 0 [] rfl (World.ownsRow_nil _ _ _ _) (.slice ba b.length bc) rfl b.length (b.map byteV) ?c1 ?c2 ?c3 ?c4 ?_)
  case c1 => exact (HBY.out.same (G := fun _ => True) (fun _ _ => trivial) fun j hj => by
    have := HF.out j hj
    rw [Below.heap_alloc _ _ _ (by simp; omega), Below.heap_alloc _ _ _ (by simp; omega), Below.heap_alloc _ _ _ this]).yields
  case c2 => unfold maxLen; omega
  case c3 => omega
  case c4 => simp
  intro v1 w1 happ
  obtain ⟨ba1, bc1, rfl⟩ := owned_slice happ.1
  simp only [Nat.zero_add] at happ ⊢
  have hAP := happ
  have hkeep : ∀ j, j < w.heap.size + 3 → w1.heap[j]? = (((w.alloc (.cells #[.int .u64 (n : Int), .slice ba b.length bc, .slice la l.length lc] 31)).alloc (.cells #[.int .u64 0, .slice none 0 0, .slice none 0 0] 31)).alloc (.cells #[.int .u64 (n : Int), .slice none 0 0, .slice none 0 0] 31)).heap[j]? :=
    fun j hj => happ.2.1.block j (by simp; omega) (by simp [Value.ownBlock])
  have hx1 := (hkeep w.heap.size (by omega)).trans (old_alloc (old_alloc (heap_new _ _ _ rfl)))
  have hx2 := (hkeep (w.heap.size + 1) (by omega)).trans (old_alloc (heap_new _ _ _ (by simp)))
  have hx3 := (hkeep (w.heap.size + 2) (by omega)).trans (heap_new _ _ _ (by simp))
  have hB1 : Below w.heap.size w w1 := ((((below_alloc _ _).alloc (by simp) _).alloc (by simp; omega) _)).grown happ.2.1 (by simp; omega) (fun j hj => by simp [Value.ownBlock] at hj)
  have hrep : RepB w1 (fun j => w.heap.size + 3 ≤ j ∧ j < w1.heap.size) b (.slice ba1 b.length bc1) := RepB.of_own (by have := happ.1; simpa only [Nat.zero_add, List.nil_append] using this)
  have HX1 := Lib.hid hx1
  have HX2 := Lib.hid hx2
  have HX3 := Lib.hid hx3
  have HB1 := Lib.hid hB1
  have HR1 := Lib.hid hrep
  obtain ⟨b0, b1, b2, f0, f1, f2, hz3⟩ := block3 hx3
  clear happ hAP hkeep hx1 hx2 hx3 hB1 hrep
  go_wp2_with fail
  clear b0 b1 b2 f0 f1 f2 hz3
  go_loopw [4] (fun i wr => ∃ k : Nat, i = .int .i64 (k : Int) ∧ CopyRel w (.cells #[.int .u64 (n : Int), .slice ba b.length bc, .slice la l.length lc] 31) n b l k wr) (fun i _ => l.length - (intOf i).toNat)
  case atStart =>
    have hst : ∀ j, j ≠ w.heap.size + 2 → (w1.setCell ⟨w.heap.size + 2, 1, none⟩ (.slice ba1 b.length bc1)).heap[j]? = w1.heap[j]? := fun j hj => Below.heap_setCell _ _ _ _ (by simpa using hj)
    refine ⟨0, rfl, Nat.zero_le _, ba1, bc1, none, 0, ?_⟩
    refine ⟨HB1.out.setCell (by simp; omega) _, (hst _ (by omega)).trans HX1.out, (hst _ (by omega)).trans HX2.out, ?_, ?_, [], World.ownsRow_nil _ _ _ _, rfl⟩
    · rw [heap_setCell_same _ _ _ _ _ _ HX3.out]
      simp
    · exact HR1.out.same (fun j hj => ⟨hj.1, by simpa using hj.2, by simp [Value.ownBlock]⟩) fun j hj => hst j (by omega)
  case round =>
    obtain ⟨k, rfl, hk, ba2, bc2, la2, lc2, hat⟩ := hrel
    have HAT := Lib.hid hat
    have hle := hat.below.size
    obtain ⟨c0, c1, c2, -, -, -, hz1⟩ := block3 hat.box1
    obtain ⟨d0, d1, d2, df0, df1, df2, hz2⟩ := block3 hat.box2
    obtain ⟨g0, g1, g2, -, -, -, hz3⟩ := block3 hat.box3
    have htk : (l.take k).length = k := by simp; omega
    rw [htk] at g2
    obtain ⟨xs, hown, hkids⟩ := hat.owns
    rw [htk] at hown hkids
    have HTK := Lib.hid htk
    have HO := Lib.hid hown
    have HK := Lib.hid hkids
    have hno : ∀ j, j < w.heap.size + 3 → (Value.slice la2 k lc2).ownBlock ≠ some j := fun j hj h => by have := (hown.lt j h).1; omega
    have HNO := Lib.hid hno
    clear hat htk hown hkids hno
    by_cases hk2 : k < l.length
    · have hkk : (k : Int) < (l.length : Int) := by omega
      obtain ⟨eb, eoff, ea, hFe, u, hu0, hu⟩ := HV.out.elem k hk2
      subst ea
      have heb := HF.out eb hFe
      have hvk : vsize l[k] ≤ 1099511627776 := by have := vsizes_get l k hk2; omega
      have hkl : k ≤ 1099511627776 := by have := vsizes_len l; omega
      obtain ⟨x0, x1, x2, rfl, e0, e1, e2⟩ := hu0.same (w' := wr) (HAT.out.below.block eb heb)
      have heb2 : eb < wr.heap.size := by omega
      have HE := Lib.hid hu
      clear hu0 hu
      go_wp2_with fail
      refine wp_region_held (S := fun w' => Loose wr w' (Value.slice la2 k lc2).ownBlock (w.heap.size + 2)) (by kernel_rfl) ?_
      have hS : Loose wr wr.drew (Value.slice la2 k lc2).ownBlock (w.heap.size + 2) := ⟨rfl, rfl, rfl, Nat.le_refl _, fun _ _ _ _ => rfl⟩
      have q1 : ∀ w', Loose wr w' (Value.slice la2 k lc2).ownBlock (w.heap.size + 2) → w'.cell? ⟨w.heap.size, 2, none⟩ = some (.slice (some ⟨eb, eoff, none⟩) l.length lc) := fun w' hw' => (hw'.cell hz1 (HNO.out _ (by omega)) (by omega)).trans c2
      have r0 : ∀ w', Loose wr w' (Value.slice la2 k lc2).ownBlock (w.heap.size + 2) → w'.cell? ⟨eb, eoff + k * 3, none⟩ = some x0 := fun w' hw' => (hw'.cell heb2 (HNO.out _ (by omega)) (by omega)).trans e0
      have r1 : ∀ w', Loose wr w' (Value.slice la2 k lc2).ownBlock (w.heap.size + 2) → w'.cell? ⟨eb, eoff + k * 3 + 1, none⟩ = some x1 := fun w' hw' => (hw'.cell heb2 (HNO.out _ (by omega)) (by omega)).trans e1
      have r2 : ∀ w', Loose wr w' (Value.slice la2 k lc2).ownBlock (w.heap.size + 2) → w'.cell? ⟨eb, eoff + k * 3 + 2, none⟩ = some x2 := fun w' hw' => (hw'.cell heb2 (HNO.out _ (by omega)) (by omega)).trans e2
      clear e0 e1 e2 c0 c1 c2 d0 d1 d2 df0 df1 df2
      refine H_take (i := 0) (v := ?_) rfl (by as_aux_lemma => kernel_rfl) (by as_aux_lemma => kernel_rfl) (by as_aux_lemma => kernel_rfl) (fun _ _ _ h => h) (by rfl) hS ?_ ?_
      rotate_left
      · intro w' hw'; go_simp; with_reducible rfl
      go_simp
      refine H_take (i := 2) (v := ?_) rfl (by as_aux_lemma => kernel_rfl) (by as_aux_lemma => kernel_rfl) (by as_aux_lemma => kernel_rfl) (fun _ _ _ h => h) (by rfl) hS ?_ ?_
      rotate_left
      · intro w' hw'; go_simp; with_reducible rfl
      go_simp
      refine H_take (i := 3) (v := ?_) rfl (by as_aux_lemma => kernel_rfl) (by as_aux_lemma => kernel_rfl) (by as_aux_lemma => kernel_rfl) (fun _ _ _ h => h) (by rfl) hS ?_ ?_
      rotate_left
      · intro w' hw'; go_simp; with_reducible rfl
      go_simp
      refine H_take (i := 4) (v := ?_) rfl (by as_aux_lemma => kernel_rfl) (by as_aux_lemma => kernel_rfl) (by as_aux_lemma => kernel_rfl) (fun _ _ _ h => h) (by rfl) hS ?_ ?_
      rotate_left
      · intro w' hw'; go_simp; with_reducible rfl
      go_simp
      refine H_take (i := 5) (v := ?_) rfl (by as_aux_lemma => kernel_rfl) (by as_aux_lemma => kernel_rfl) (by as_aux_lemma => kernel_rfl) (fun _ _ _ h => h) (by rfl) hS ?_ ?_
      rotate_left
      · intro w' hw'; go_simp; with_reducible rfl
      go_simp
      refine H_take (i := 6) (v := ?_) rfl (by as_aux_lemma => kernel_rfl) (by as_aux_lemma => kernel_rfl) (by as_aux_lemma => kernel_rfl) (fun _ _ _ h => h) (by rfl) hS ?_ ?_
      rotate_left
      · intro w' hw'; go_simp; with_reducible rfl
      go_simp
      refine H_two (i := 1) (j := 7) (by as_aux_lemma => kernel_rfl) rfl rfl (by rfl) (by rfl) ?_ ?_
      · go_simp
        refine H_one (i := 7) (by as_aux_lemma => kernel_rfl) rfl (by rfl) ?_
        go_simp
        refine (HL.out k hk2 F _ wr.drew (HE.out.same (w' := wr.drew) (fun _ h => h) fun j hj => HAT.out.below.block j (HF.out j hj)) (fun j hj => Nat.lt_of_lt_of_le (HF.out j hj) HAT.out.below.size) hvk).mono ?_
        rintro e w2 ⟨u, rfl, hB2, hu2⟩
        replace hB2 : Below wr.heap.size wr w2 := (Below.refl _ _).drew.trans hB2
        obtain ⟨yn, yb, ybn, ybc, yl, yln, ylc, rfl⟩ := hu2.form
        have HU2 := Lib.hid hu2
        have HAT2 := Lib.hid (HAT.out.next hB2)
        obtain ⟨xs2, ho2, hk2'⟩ := HAT2.out.owns
        rw [HTK.out] at ho2 hk2'
        have HO2 := Lib.hid ho2
        have HK2 := Lib.hid hk2'
        have HY2 : Hid (Yields (w2.alloc (.cells #[.int .u64 yn, .slice yb ybn ybc, .slice yl yln ylc] 31)) (.slice (some ⟨w2.heap.size, 0, none⟩) 1 1) 1 3 [.int .u64 yn, .slice yb ybn ybc, .slice yl yln ylc]) := Lib.hid ⟨rfl, fun u hu => by
          simp at hu
          rcases hu with rfl | rfl | rfl <;> rfl, .inr ⟨_, 1, rfl, three_new rfl⟩⟩
        clear ho2 hk2'
        have hzz := hB2.size
        have gg := HAT2.out.box3
        rw [HTK.out] at gg
        have GG2 := Lib.hid gg
        obtain ⟨m0, m1, m2, mf0, mf1, mf2, mz⟩ := block3 gg
        have hS2 : Loose wr w2 (Value.slice la2 k lc2).ownBlock (w.heap.size + 2) := .of_below hB2
        clear hu2 hB2 gg
        refine ⟨hS2, ?_⟩
        go_simp
        refine H_one (i := 8) (by as_aux_lemma => kernel_rfl) rfl (by rfl) ?_
        go_simp
        have hS3 : Loose wr (w2.alloc (.cells #[.int .u64 yn, .slice yb ybn ybc, .slice yl yln ylc] 31)) (Value.slice la2 k lc2).ownBlock (w.heap.size + 2) := hS2.grown (World.grownBy_alloc _ _ _)
        refine ⟨hS3, ?_⟩
        go_simp
        refine H_one (i := 9) (by as_aux_lemma => kernel_rfl) rfl (by rfl) ?_
        refine wp_append_any _ _ _ 26 rfl (w.heap.size + 3) 31 iv (.agg #[.int .u64 0, .slice none 0 0, .slice none 0 0]) 3 56 Try.underlying26 hiv hiv0 hiv1 hiv2 rfl (by decide) _ k xs2 rfl (HO2.out.alloc _) (.slice (some ⟨w2.heap.size, 0, none⟩) 1 1) rfl 1 [.int .u64 yn, .slice yb ybn ybc, .slice yl yln ylc] HY2.out (by unfold maxLen; omega) (by omega) (by simp; omega) ?_
        intro v4 w4 happ
        obtain ⟨la4, lc4, rfl⟩ := owned_slice happ.1
        have hg4 := happ.2.1
        have hS4 : Loose wr w4 (Value.slice la2 k lc2).ownBlock (w.heap.size + 2) := hS3.grown hg4
        have hgg : w4.heap[w.heap.size + 2]? = _ := (hg4.block _ (by simp; omega) (fun h => HNO.out _ (by omega) h.symm)).trans (old_alloc GG2.out)
        have HPU : Hid (CopyAt w (.cells #[.int .u64 (n : Int), .slice ba b.length bc, .slice (some ⟨eb, eoff, none⟩) l.length lc] 31) (n : Int) b ba2 bc2 la4 lc4 (l.take (k + 1)) (w4.setCell ⟨w.heap.size + 2, 2, none⟩ (.slice la4 (k + 1) lc4))) := Lib.hid (by
          have hp := HAT2.out.push (d := l[k]) (lo := wr.heap.size) (m := k + 1) (la' := la4) (lc' := lc4) (xs := xs2) (w4 := w4) HU2.out (by omega) (by rw [HTK.out]; exact fun j hj => (HO.out.lt j hj).2) (by rw [HTK.out]; exact HO2.out) (by rw [HTK.out]; exact HK2.out) (by rw [HTK.out]; exact happ.1) (by rw [HTK.out]) (by rw [HTK.out]; exact hg4) (by rw [HTK.out]; exact happ.2.2.imp id (fun h => by rw [h]; simp))
          rw [List.take_add_one, List.getElem?_eq_getElem hk2]
          exact hp)
        obtain ⟨n0, n1, n2, nf0, nf1, nf2, nz⟩ := block3 hgg
        clear happ hg4 hgg m0 m1 m2 mf0 mf1 mf2 mz
        refine ⟨hS4, ?_⟩
        go_simp
        refine H_one (i := 10) (by as_aux_lemma => kernel_rfl) rfl (by rfl) ?_
        go_simp
        refine H_one (i := 11) (by as_aux_lemma => kernel_rfl) rfl (by rfl) ?_
        go_simp
        refine ⟨hS4.set, ?_⟩
        refine wpAnyH_done (by as_aux_lemma => kernel_rfl) ?_ _
        clear q1 r0 r1 r2 hS hS2 hS3 hS4
        go_wp2_with fail
        go_roundw
        case rel => exact ⟨k + 1, by go_num, by omega, _, _, _, _, HPU.out⟩
        case measure => simp [intOf]; omega
      · go_simp
        refine (HL.out k hk2 F _ wr.drew (HE.out.same (w' := wr.drew) (fun _ h => h) fun j hj => HAT.out.below.block j (HF.out j hj)) (fun j hj => Nat.lt_of_lt_of_le (HF.out j hj) HAT.out.below.size) hvk).mono ?_
        rintro e w2 ⟨u, rfl, hB2, hu2⟩
        replace hB2 : Below wr.heap.size wr w2 := (Below.refl _ _).drew.trans hB2
        obtain ⟨yn, yb, ybn, ybc, yl, yln, ylc, rfl⟩ := hu2.form
        have HU2 := Lib.hid hu2
        have HAT2 := Lib.hid (HAT.out.next hB2)
        obtain ⟨xs2, ho2, hk2'⟩ := HAT2.out.owns
        rw [HTK.out] at ho2 hk2'
        have HO2 := Lib.hid ho2
        have HK2 := Lib.hid hk2'
        have HY2 : Hid (Yields (w2.alloc (.cells #[.int .u64 yn, .slice yb ybn ybc, .slice yl yln ylc] 31)) (.slice (some ⟨w2.heap.size, 0, none⟩) 1 1) 1 3 [.int .u64 yn, .slice yb ybn ybc, .slice yl yln ylc]) := Lib.hid ⟨rfl, fun u hu => by
          simp at hu
          rcases hu with rfl | rfl | rfl <;> rfl, .inr ⟨_, 1, rfl, three_new rfl⟩⟩
        clear ho2 hk2'
        have hzz := hB2.size
        have gg := HAT2.out.box3
        rw [HTK.out] at gg
        have GG2 := Lib.hid gg
        obtain ⟨m0, m1, m2, mf0, mf1, mf2, mz⟩ := block3 gg
        have hS2 : Loose wr w2 (Value.slice la2 k lc2).ownBlock (w.heap.size + 2) := .of_below hB2
        clear hu2 hB2 gg
        refine ⟨hS2, ?_⟩
        go_simp
        refine H_two (i := 1) (j := 8) (by as_aux_lemma => kernel_rfl) rfl rfl (by rfl) (by rfl) ?_ ?_
        · go_simp
          refine H_one (i := 8) (by as_aux_lemma => kernel_rfl) rfl (by rfl) ?_
          go_simp
          have hS3 : Loose wr (w2.alloc (.cells #[.int .u64 yn, .slice yb ybn ybc, .slice yl yln ylc] 31)) (Value.slice la2 k lc2).ownBlock (w.heap.size + 2) := hS2.grown (World.grownBy_alloc _ _ _)
          refine ⟨hS3, ?_⟩
          go_simp
          refine H_one (i := 9) (by as_aux_lemma => kernel_rfl) rfl (by rfl) ?_
          refine wp_append_any _ _ _ 26 rfl (w.heap.size + 3) 31 iv (.agg #[.int .u64 0, .slice none 0 0, .slice none 0 0]) 3 56 Try.underlying26 hiv hiv0 hiv1 hiv2 rfl (by decide) _ k xs2 rfl (HO2.out.alloc _) (.slice (some ⟨w2.heap.size, 0, none⟩) 1 1) rfl 1 [.int .u64 yn, .slice yb ybn ybc, .slice yl yln ylc] HY2.out (by unfold maxLen; omega) (by omega) (by simp; omega) ?_
          intro v4 w4 happ
          obtain ⟨la4, lc4, rfl⟩ := owned_slice happ.1
          have hg4 := happ.2.1
          have hS4 : Loose wr w4 (Value.slice la2 k lc2).ownBlock (w.heap.size + 2) := hS3.grown hg4
          have hgg : w4.heap[w.heap.size + 2]? = _ := (hg4.block _ (by simp; omega) (fun h => HNO.out _ (by omega) h.symm)).trans (old_alloc GG2.out)
          have HPU : Hid (CopyAt w (.cells #[.int .u64 (n : Int), .slice ba b.length bc, .slice (some ⟨eb, eoff, none⟩) l.length lc] 31) (n : Int) b ba2 bc2 la4 lc4 (l.take (k + 1)) (w4.setCell ⟨w.heap.size + 2, 2, none⟩ (.slice la4 (k + 1) lc4))) := Lib.hid (by
            have hp := HAT2.out.push (d := l[k]) (lo := wr.heap.size) (m := k + 1) (la' := la4) (lc' := lc4) (xs := xs2) (w4 := w4) HU2.out (by omega) (by rw [HTK.out]; exact fun j hj => (HO.out.lt j hj).2) (by rw [HTK.out]; exact HO2.out) (by rw [HTK.out]; exact HK2.out) (by rw [HTK.out]; exact happ.1) (by rw [HTK.out]) (by rw [HTK.out]; exact hg4) (by rw [HTK.out]; exact happ.2.2.imp id (fun h => by rw [h]; simp))
            rw [List.take_add_one, List.getElem?_eq_getElem hk2]
            exact hp)
          obtain ⟨n0, n1, n2, nf0, nf1, nf2, nz⟩ := block3 hgg
          clear happ hg4 hgg m0 m1 m2 mf0 mf1 mf2 mz
          refine ⟨hS4, ?_⟩
          go_simp
          refine H_one (i := 10) (by as_aux_lemma => kernel_rfl) rfl (by rfl) ?_
          go_simp
          refine H_one (i := 11) (by as_aux_lemma => kernel_rfl) rfl (by rfl) ?_
          go_simp
          refine ⟨hS4.set, ?_⟩
          refine wpAnyH_done (by as_aux_lemma => kernel_rfl) ?_ _
          clear q1 r0 r1 r2 hS hS2 hS3 hS4
          go_wp2_with fail
          go_roundw
          case rel => exact ⟨k + 1, by go_num, by omega, _, _, _, _, HPU.out⟩
          case measure => simp [intOf]; omega
        · go_simp
          have hS3 : Loose wr (w2.alloc (.cells #[.int .u64 yn, .slice yb ybn ybc, .slice yl yln ylc] 31)) (Value.slice la2 k lc2).ownBlock (w.heap.size + 2) := hS2.grown (World.grownBy_alloc _ _ _)
          refine ⟨hS3, ?_⟩
          go_simp
          refine H_one (i := 1) (by as_aux_lemma => kernel_rfl) rfl (by rfl) ?_
          go_simp
          refine H_one (i := 9) (by as_aux_lemma => kernel_rfl) rfl (by rfl) ?_
          refine wp_append_any _ _ _ 26 rfl (w.heap.size + 3) 31 iv (.agg #[.int .u64 0, .slice none 0 0, .slice none 0 0]) 3 56 Try.underlying26 hiv hiv0 hiv1 hiv2 rfl (by decide) _ k xs2 rfl (HO2.out.alloc _) (.slice (some ⟨w2.heap.size, 0, none⟩) 1 1) rfl 1 [.int .u64 yn, .slice yb ybn ybc, .slice yl yln ylc] HY2.out (by unfold maxLen; omega) (by omega) (by simp; omega) ?_
          intro v4 w4 happ
          obtain ⟨la4, lc4, rfl⟩ := owned_slice happ.1
          have hg4 := happ.2.1
          have hS4 : Loose wr w4 (Value.slice la2 k lc2).ownBlock (w.heap.size + 2) := hS3.grown hg4
          have hgg : w4.heap[w.heap.size + 2]? = _ := (hg4.block _ (by simp; omega) (fun h => HNO.out _ (by omega) h.symm)).trans (old_alloc GG2.out)
          have HPU : Hid (CopyAt w (.cells #[.int .u64 (n : Int), .slice ba b.length bc, .slice (some ⟨eb, eoff, none⟩) l.length lc] 31) (n : Int) b ba2 bc2 la4 lc4 (l.take (k + 1)) (w4.setCell ⟨w.heap.size + 2, 2, none⟩ (.slice la4 (k + 1) lc4))) := Lib.hid (by
            have hp := HAT2.out.push (d := l[k]) (lo := wr.heap.size) (m := k + 1) (la' := la4) (lc' := lc4) (xs := xs2) (w4 := w4) HU2.out (by omega) (by rw [HTK.out]; exact fun j hj => (HO.out.lt j hj).2) (by rw [HTK.out]; exact HO2.out) (by rw [HTK.out]; exact HK2.out) (by rw [HTK.out]; exact happ.1) (by rw [HTK.out]) (by rw [HTK.out]; exact hg4) (by rw [HTK.out]; exact happ.2.2.imp id (fun h => by rw [h]; simp))
            rw [List.take_add_one, List.getElem?_eq_getElem hk2]
            exact hp)
          obtain ⟨n0, n1, n2, nf0, nf1, nf2, nz⟩ := block3 hgg
          clear happ hg4 hgg m0 m1 m2 mf0 mf1 mf2 mz
          refine ⟨hS4, ?_⟩
          go_simp
          refine H_one (i := 10) (by as_aux_lemma => kernel_rfl) rfl (by rfl) ?_
          go_simp
          refine H_one (i := 11) (by as_aux_lemma => kernel_rfl) rfl (by rfl) ?_
          go_simp
          refine ⟨hS4.set, ?_⟩
          refine wpAnyH_done (by as_aux_lemma => kernel_rfl) ?_ _
          clear q1 r0 r1 r2 hS hS2 hS3 hS4
          go_wp2_with fail
          go_roundw
          case rel => exact ⟨k + 1, by go_num, by omega, _, _, _, _, HPU.out⟩
          case measure => simp [intOf]; omega
    · have hkk : ¬ (k : Int) < (l.length : Int) := by omega
      obtain rfl : k = l.length := by omega
      have HVAL : Hid (RepV wr (fun j => w.heap.size + 3 ≤ j ∧ j < wr.heap.size) (.mk n b l) (.agg #[.int .u64 (n : Int), .slice ba2 b.length bc2, .slice la2 l.length lc2])) := Lib.hid (by
        have := HAT.out.val hn
        rw [List.take_length] at this
        exact this)
      go_wp2_with fail
      refine bodyPost_ret (v := .agg #[.int .u64 (n : Int), .slice ba2 b.length bc2, .slice la2 l.length lc2]) (by simp [results, Try.results11, go_sem, d0, d1, d2, hz2]) rfl ?_
      refine ⟨_, rfl, ((HAT.out.below.setCell (by simp) _).setCell (by simp) _).setCell (by simp) _, HVAL.out.same (fun j hj => ⟨by omega, by simpa using hj.2⟩) fun j hj => ?_⟩
      rw [Below.heap_setCell _ _ _ _ (by simp; omega), Below.heap_setCell _ _ _ _ (by simp; omega), Below.heap_setCell _ _ _ _ (by simp; omega)]

theorem copy_sized : ∀ (n : Nat) (d : V), vsize d ≤ n → CopySaid d
  | 0, .mk _ _ _, h => by simp [vsize] at h
  | n + 1, .mk a b l, h => copy_of a b l fun k hk => copy_sized n l[k] (by have := vsizes_get l k hk; simp only [vsize] at h; omega)

theorem Copy_any (d : V) : CopySaid d := copy_sized _ d (Nat.le_refl _)
end Go.Proofs.Ytafodaoehnggfaa.M
