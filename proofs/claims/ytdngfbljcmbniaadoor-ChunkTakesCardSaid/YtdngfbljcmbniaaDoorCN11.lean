/- Package chunk: the first place that lacks a byte. Package chunk: bytes laid. Package chunk: the bytes in front. Package chunk: pieces, what is right. Package chunk: a heap's small calls. Package chunk: the whole, and the check. Package chunk: what a take leaves. -/
import Derived.Test.YtdngfbljcmbniaaDoorCN9
import Derived.Test.YtdngfbljcmbniaaDoorCN10
import Derived.Deep.QuietTactic
import Derived.BigQuiet
import Derived.Deep.LoopGhost
import Derived.Maps.OwnIn
import Derived.Deep.OwnRows
import Derived.Deep.RegionHeld
import Derived.Deep.RegionHeld3
/- Part: ChD. -/
namespace Go.Proofs.YtdngfbljcmbniaaDoor.M
open Go.RowKit Go.Maps

/-- A heap's own row. -/
def HpRow (w : World) (g : Nat) (a0 a1 a2 a3 a4 m : Value) (fi : Nat) (a7 : Value) : Prop := w.heap[g]? = some (.cells #[a0, a1, a2, a3, a4, m, .int .i64 (fi : Int), a7] 64)

theorem HpRow.cells {w : World} {g : Nat} {a0 a1 a2 a3 a4 m : Value} {fi : Nat} {a7 : Value} (h : HpRow w g a0 a1 a2 a3 a4 m fi a7) :
    (w.cell? ⟨g, 0, none⟩ = some a0 ∧ w.cell? ⟨g, 1, none⟩ = some a1 ∧ w.cell? ⟨g, 2, none⟩ = some a2 ∧ w.cell? ⟨g, 3, none⟩ = some a3 ∧ w.cell? ⟨g, 4, none⟩ = some a4 ∧ w.cell? ⟨g, 5, none⟩ = some m ∧ w.cell? ⟨g, 6, none⟩ = some (.int .i64 (fi : Int)) ∧ w.cell? ⟨g, 7, none⟩ = some a7) ∧ (∀ j, w.frozen? ⟨g, j, none⟩ = false) ∧ g < w.heap.size :=
  ⟨⟨cell_of_row _ _ 0 _ _ _ h, cell_of_row _ _ 1 _ _ _ h, cell_of_row _ _ 2 _ _ _ h, cell_of_row _ _ 3 _ _ _ h, cell_of_row _ _ 4 _ _ _ h, cell_of_row _ _ 5 _ _ _ h, cell_of_row _ _ 6 _ _ _ h, cell_of_row _ _ 7 _ _ _ h⟩, fun j => frozen_of_row _ _ j _ _ h, lt_of_heap h⟩

theorem HpRow.put6 {w : World} {g : Nat} {a0 a1 a2 a3 a4 m : Value} {fi fj : Nat} {a7 : Value} (h : HpRow w g a0 a1 a2 a3 a4 m fi a7) : HpRow (w.setCell ⟨g, 6, none⟩ (.int .i64 (fj : Int))) g a0 a1 a2 a3 a4 m fj a7 := by
  unfold HpRow at h ⊢
  simp [World.setCell, Array.getElem?_modify, h]

theorem HpRow.put5 {w : World} {g : Nat} {a0 a1 a2 a3 a4 m m' : Value} {fi : Nat} {a7 : Value} (h : HpRow w g a0 a1 a2 a3 a4 m fi a7) : HpRow (w.setCell ⟨g, 5, none⟩ m') g a0 a1 a2 a3 a4 m' fi a7 := by
  unfold HpRow at h ⊢
  simp [World.setCell, Array.getElem?_modify, h]

theorem u64_not (z : Nat) (h : z < 18446744073709551616) : bits .xor .u64 IntKind.u64.max (z : Int) = ((18446744073709551615 - z : Nat) : Int) := by
  have h1 := bits_xor_u64_nat 18446744073709551615 z (by decide) h
  have h2 : 18446744073709551615 ^^^ z = 18446744073709551615 - z := by
    apply Nat.eq_of_testBit_eq
    intro i
    rw [show 18446744073709551615 - z = 2 ^ 64 - (z + 1) from by omega, Nat.testBit_two_pow_sub_succ h, Nat.testBit_xor, show (18446744073709551615 : Nat) = 2 ^ 64 - 1 from rfl, Nat.testBit_two_pow_sub_one]
    by_cases hi : i < 64
    · simp [hi]
    · rw [Nat.testBit_lt_two_pow (Nat.lt_of_lt_of_le h (show 2 ^ 64 ≤ 2 ^ i from Nat.pow_le_pow_right (by omega) (by omega)))]
      simp [hi]
  rw [h2] at h1
  exact h1

/-- What advance leaves. -/
def AdvPost (w : World) (g : Nat) (a0 a1 a2 a3 a4 m a7 : Value) (f : Nat → Option UInt8) (e : Ending) (w' : World) : Prop :=
  e = .returned (.tuple #[]) ∧ Only (fun k => k = g) w w' ∧ ∃ fj, HpRow w' g a0 a1 a2 a3 a4 m fj a7 ∧ (∀ i, i < fj → (f i).isSome = true) ∧ (f fj).isSome = false

set_option maxRecDepth 20000 in
set_option maxHeartbeats 4000000 in
theorem Advance_any (w : World) (X : Nat → Prop) (g gm nb N fi : Nat) (a0 a1 a2 a3 a4 a7 : Value) (M : DataW Nat) (S : Nat → Bool) (E T : Nat → Nat) (bs : Nat → List UInt8) (f : Nat → Option UInt8) (h : HeldAt w X gm nb M S E T bs f) (hX : ¬ X g) (hr : HpRow w g a0 a1 a2 a3 a4 (.map (some gm)) fi a7)
    (hf : ∀ i, i < fi → (f i).isSome = true) (hN : ∀ k, (f k).isSome = true → k < N) (hNb : N ≤ 1000000) (ht : Hid (Tz w)) (hg1 : g ≠ 1) :
    Calls Tryd.prog 39 #[.pointer (some ⟨g, 5, none⟩)] w (AdvPost w g a0 a1 a2 a3 a4 (.map (some gm)) a7 f) := by
  have H := Lib.hid h
  have HX := Lib.hid hX
  have HR := Lib.hid hr
  have HF := Lib.hid hf
  have HN := Lib.hid hN
  have HG := Lib.hid hg1
  have hfi : fi ≤ N := by
    rcases Nat.eq_zero_or_pos fi with h | h
    · omega
    · have := hN _ (hf (fi - 1) (by omega)); omega
  clear h hX hr hf hN hg1
  go_enter Tryd.func39, Tryd.ntmps39
  go_wp2_with fail
  go_loopg [2, 3] (N - fi) (fun gk _ _ wr => ∃ fj : Nat, fj + gk = N ∧ Hid (Only (fun k => k = g) w wr ∧ HpRow wr g a0 a1 a2 a3 a4 (.map (some gm)) fj a7 ∧ ∀ i, i < fj → (f i).isSome = true))
  case atStart => exact ⟨fi, by omega, Lib.hid ⟨Only.refl _ _, HR.out, HF.out⟩⟩
  case round =>
    obtain ⟨fj, hfj, hs⟩ := hrel
    obtain ⟨ho, hrow, hall⟩ := hs.out
    have hat := H.out.same (Nat.le_refl _) (fun _ h => h) (fun k hk hlt => ho.block k hlt (fun e => HX.out (e ▸ hk)))
    obtain ⟨⟨-, -, -, -, -, c5, c6, -⟩, hfz, hz⟩ := hrow.cells
    have f6 := hfz 6
    obtain ⟨q, hq⟩ : ∃ q, q = fj / 64 := ⟨_, rfl⟩
    obtain ⟨s, hs2⟩ : ∃ s, s = fj % 64 := ⟨_, rfl⟩
    have e1 : (fj : Int) / 64 = (q : Int) := by omega
    have e2 : (fj : Int) % 64 = (s : Int) := by omega
    have hqs : 64 * q + s = fj := by omega
    have hsl : s < 64 := by omega
    have hfb : fj ≤ 1000000 := by omega
    have HLK : ∀ n, (Instr.lookup 60 (.map (some gm)) (.int .i64 (q : Int)) false).run Tryd.prog (wr.drewN n) = .ok (ptrAt S E q) (wr.drewN n) := fun n => hat.look (q := q) (by omega) (w' := wr.drewN n) rfl
    unfold ptrAt at HLK
    have HO := Lib.hid ho
    have HW := Lib.hid hrow
    have HAL := Lib.hid hall
    have HAT := Lib.hid hat
    have HQS := Lib.hid hqs
    clear ho hrow hall hat hfz hq hs2 hs hqs
    cases hS : S q with
    | false =>
      rw [hS] at HLK
      simp only [Bool.false_eq_true, if_false] at HLK
      have HNO : Hid ((f fj).isSome = false) := Lib.hid (by rw [← HQS.out, HAT.out.none q hS s hsl]; rfl)
      clear hS
      go_wp2_with fail
      go_quiet (fail)
      go_wp2_with fail
      go_end0
      exact ⟨rfl, HO.out.then (Only.drewN _ _ _), fj, HW.out, HAL.out, HNO.out⟩
    | true =>
      rw [hS] at HLK
      simp only [if_true] at HLK
      obtain ⟨hblk, hag⟩ := HAT.out.each q hS
      clear hS
      obtain ⟨b0, b0f, b0z⟩ := hblk.bits
      go_wp2_with fail
      go_quiet (fail)
      go_wp2_with fail
      generalize hWn : World.drewN wr _ = W1
      have ho1 : Only (fun k => k = g) w W1 := by rw [← hWn]; exact HO.out.then (Only.drewN _ _ _)
      have hw1 : HpRow W1 g a0 a1 a2 a3 a4 (.map (some gm)) fj a7 := by rw [← hWn]; exact HW.out
      have hk1 : BlkAt W1 (E q) (T q) (bs q) := by rw [← hWn]; exact hblk
      clear hWn c5 c6 f6 hz b0 b0f b0z hblk HLK
      obtain ⟨⟨-, -, -, -, -, c5, c6, -⟩, hfz, hz⟩ := hw1.cells
      have f6 := hfz 6
      obtain ⟨b0, -, b0z⟩ := hk1.bits
      obtain ⟨z, hzq, hze⟩ : ∃ z : Nat, (T q : Int) / 2 ^ s = (z : Int) ∧ z = T q / 2 ^ s := ⟨T q / 2 ^ s, by simp, rfl⟩
      have hzl : z < 18446744073709551616 := by rw [hze]; exact Nat.lt_of_le_of_lt (Nat.div_le_self _ _) hag.1
      have hxor := u64_not z hzl
      obtain ⟨y, hye⟩ : ∃ y, y = 18446744073709551615 - z := ⟨_, rfl⟩
      rw [← hye] at hxor
      have hTW : Hid (Tz W1) := Lib.hid (ht.out.only ho1 (fun e => HG.out e.symm))
      have HTC : Hid (∀ n, Calls Tryd.prog 42 #[.int .u64 (y : Int)] (W1.drewN n) fun e w' => e = .returned (.int .i64 (Lib.ctz 64 y : Int)) ∧ w' = W1.drewN n) := Lib.hid fun n =>
        (Tz_any y (W1.drewN n) (Lib.hid (by rw [hye]; exact Nat.lt_of_le_of_lt (Nat.sub_le _ _) (by decide))) hTW).mono fun _ _ h => ⟨h.1, h.2.symm⟩
      obtain ⟨ns, hns⟩ : ∃ ns, ns = Lib.ctz 64 y := ⟨_, rfl⟩
      rw [← hns] at HTC
      obtain ⟨s1, s2, s3⟩ := ones_spec hag.1 hsl
      simp only [Nat.zero_mul, Nat.add_zero] at s1
      rw [← hze, ← hye, ← hns] at s1 s2 s3
      have hbit : ∀ j, j < 64 → (T q).testBit j = (f (64 * q + j)).isSome := fun j hj => (hag.2.2 j hj).1
      have HO1 := Lib.hid ho1
      have HW1 := Lib.hid hw1
      have hall2 : ∀ i, i < fj + ns → (f i).isSome = true := fun i hi => by
        by_cases h : i < fj
        · exact HAL.out i h
        · have h1 := s2 (i - fj) (by omega)
          rw [hbit _ (by omega), show 64 * q + (s + (i - fj)) = i by have := HQS.out; omega] at h1
          exact h1
      have hle : fj + ns ≤ N := by
        rcases Nat.eq_zero_or_pos ns with h | h
        · omega
        · have := HN.out _ (hall2 (fj + ns - 1) (by omega)); omega
      have HNO : Hid (ns = 0 → (f fj).isSome = false) := Lib.hid fun h => by
        subst h
        have h1 := s3 (by omega)
        rw [Nat.add_zero, hbit _ hsl, HQS.out] at h1
        exact h1
      have HA2 := Lib.hid hall2
      have hs1 : ns ≤ 64 := by omega
      clear hw1 ho1 hk1 hze hzl hns hye s1 s2 s3 hbit hall2 hag
      clear hfz
      have HXR : Hid (bits BinOp.xor IntKind.u64 (if IntKind.u64.signed = true then -1 else IntKind.u64.max) (z : Int) = (y : Int)) := Lib.hid hxor
      clear hxor
      have e2' : (fj : Int).tmod 64 = (s : Int) := by rw [Int.tmod_eq_emod_of_nonneg (by omega)]; exact e2
      have e3 : 0 ≤ (s : Int) ∧ (s : Int) ≤ 63 := by omega
      go_quiet ((go_at_call 42; rw [HXR.out]; exact Calls.quiet_of_same (HTC.out _)))
      by_cases hn0 : ns = 0
      · have q0 : ((ns : Int) == 0) = true := by simp; omega
        have HN0 := Lib.hid hn0
        clear hn0
        go_wp2_with fail
        go_end0
        exact ⟨rfl, HO1.out.then (Only.drewN _ _ _), fj, HW1.out, HAL.out, HNO.out HN0.out⟩
      · have q0 : ((ns : Int) == 0) = false := by simp; omega
        go_wp2_with fail
        go_roundg (gk - ns)
        case rel =>
          have hp : ∀ n, HpRow ((W1.drewN n).setCell ⟨g, 6, none⟩ (.int .i64 ((fj : Int) + (ns : Int)))) g a0 a1 a2 a3 a4 (.map (some gm)) (fj + ns) a7 := fun n => by
            have h1 := HpRow.put6 (w := W1.drewN n) (fj := fj + ns) HW1.out
            rw [Int.natCast_add] at h1
            exact h1
          exact ⟨fj + ns, by omega, Lib.hid ⟨(HO1.out.then (Only.drewN _ _ _)).set (.inl rfl) _, hp _, HA2.out⟩⟩
        case measure => omega
end Go.Proofs.YtdngfbljcmbniaaDoor.M

/- Part: ChE. -/
namespace Go.Proofs.YtdngfbljcmbniaaDoor.M
open Go.RowKit Go.Shelf Go.Maps

attribute [local go_sem] Oper.semAt_some

section
variable {w : World} {X : Nat → Prop} {gm n : Nat} {M : DataW Nat} {S : Nat → Bool} {E T : Nat → Nat} {bs : Nat → List UInt8} {f : Nat → Option UInt8}

/-- A block that holds no cells turns beside them. -/
theorem HeldAt.beside (h : HeldAt w X gm n M S E T bs f) {B : Nat} (hB : gm < B) {w' : World} {row : Option Nat} (hg : w.grownBy w' row) (hr : ∀ r, row = some r → B ≤ r ∧ ∃ o : Obj, w.heap[r]? = some o ∧ o.isCells = false) : HeldAt w' X gm n M S E T bs f := by
  refine ⟨ownsMap_same h.map (hg.block gm h.lt.1 fun e => by have := (hr gm e.symm).1; omega), h.keys, fun q hq => ⟨?_, (h.each q hq).2⟩, h.none, h.apart, h.foot⟩
  have h1 := (h.each q hq).1
  refine (hg.block (E q) (h.lt.2 q hq) fun e => ?_).trans h1
  obtain ⟨-, o, ho, hc⟩ := hr _ e.symm
  unfold BlkAt at h1
  rw [h1] at ho
  cases ho
  cases hc
end

theorem dns_le (pos n : Nat) : dns pos n ≤ n := by unfold dns; split <;> omega

/-- What holds when some parts are laid. -/
def LayAt (W4 : World) (X : Nat → Prop) (gm nb pos : Nat) (b : List UInt8) (f : Nat → Option UInt8) (k : Nat) (W : World) : Prop :=
  Only X W4 W ∧ ∃ Y nb' M S E T bs, HeldAt W Y gm nb' M S E T bs (ov f pos (b.take (dn pos b.length k))) ∧ nb' ≤ nb + k ∧ ∀ j, Y j → X j ∨ (W4.heap.size ≤ j ∧ j < W.heap.size)

theorem LayAt.beside {W4 W W' : World} {X : Nat → Prop} {gm nb pos : Nat} {b : List UInt8} {f : Nat → Option UInt8} {k : Nat} (h : LayAt W4 X gm nb pos b f k W) (hB : gm < W4.heap.size) {row : Option Nat} (hg : W.grownBy W' row) (hr : ∀ r, row = some r → W4.heap.size ≤ r ∧ ∃ o : Obj, W.heap[r]? = some o ∧ o.isCells = false) : LayAt W4 X gm nb pos b f k W' := by
  obtain ⟨ho, Y, nb', M, S, E, T, bs, h1, h2, h3⟩ := h
  exact ⟨ho.thn (fun j hj => .inr (hr j hj).1) (only_row7 hg), Y, nb', M, S, E, T, bs, h1.beside hB hg hr, h2, fun j hj => by
    rcases h3 j hj with h | h
    · exact .inl h
    · exact .inr ⟨h.1, Nat.lt_of_lt_of_le h.2 hg.size⟩⟩

theorem keeps_cells {B g : Nat} {W W' : World} {cs : Array Value} {t : TypeId} {fr : Nat × Nat} (h : Only (fun k => k = g) W W') (hg : W.heap[g]? = some (.cells cs t fr)) : KeepsFrom B W W' :=
  ⟨h.size, fun k o _ ho hc => (h.block k (lt_of_heap ho) fun e => by
    subst e
    rw [hg] at ho
    cases ho
    cases hc).trans ho⟩

/-- A part is laid in its block. -/
theorem LayAt.laid {W4 W w' : World} {X Y : Nat → Prop} {gm nb nb' pos k q r : Nat} {b : List UInt8} {f : Nat → Option UInt8} {M : DataW Nat} {S : Nat → Bool} {E T : Nat → Nat} {bs : Nat → List UInt8}
    (ho : Only X W4 W) (h : HeldAt W Y gm nb' M S E T bs (ov f pos (b.take (dn pos b.length k)))) (hn : nb' ≤ nb + (k + 1)) (hY : ∀ j, Y j → X j ∨ (W4.heap.size ≤ j ∧ j < W.heap.size)) (hk : k < dns pos b.length) (hS : S q = true) (hq : 64 * q + r = pos + dn pos b.length k) (hl : r + (partOf pos b k).length ≤ 64)
    (h1 : Only (fun j => j = E q) W w') (h2 : BlkAt w' (E q) (T q ||| maskN r (partOf pos b k).length) (spliceB (bs q) r (partOf pos b k))) : KeepsFrom W4.heap.size W w' ∧ LayAt W4 X gm nb pos b f (k + 1) w' := by
  have h3 := h.laid hS hl h2 fun j _ hj hne => h1.block j hj hne
  rw [hq, ov_part f pos b hk] at h3
  refine ⟨keeps_cells h1 (h.each q hS).1, ho.thn (fun j hj => ?_) h1, Y, nb', M, S, E, _, _, h3, by omega, fun j hj => ?_⟩
  · rw [hj]
    rcases hY _ (h.foot.2 q hS) with h | h
    · exact .inl h
    · exact .inr h.1
  · rcases hY j hj with h | h
    · exact .inl h
    · exact .inr ⟨h.1, Nat.lt_of_lt_of_le h.2 h1.size⟩

/-- A block's zero. -/
theorem zero_block : ∃ ZC : Array Value, (∀ w : World, (zeroValue 82).run Tryd.prog w = .ok (.agg ZC) w) ∧ Hid (ZC = (Value.int .u64 ((0 : Nat) : Int) :: (List.replicate 64 (0 : UInt8)).map byteV).toArray) :=
  ⟨(Value.int .u64 ((0 : Nat) : Int) :: (List.replicate 64 (0 : UInt8)).map byteV).toArray, fun w => by kernel_rfl, Lib.hid rfl⟩

/-- A block is made, and set in the map. -/
theorem HeldAt.made {W W5 w6 : World} {Y : Nat → Prop} {gm nb q : Nat} {f : Nat → Option UInt8} {M : DataW Nat} {S : Nat → Bool} {E T : Nat → Nat} {bs : Nat → List UInt8} {ZC : Array Value} (h : HeldAt W Y gm nb M S E T bs f) (hS : S q = false) 
    (hZ : ZC = (Value.int .u64 ((0 : Nat) : Int) :: (List.replicate 64 (0 : UInt8)).map byteV).toArray) (h5 : W5 = W.alloc (.cells ZC 82)) (hnb : ¬ Y W.heap.size) (h6 : w6.ownsMap Tryd.prog 3 ptrElem gm (nb + 1) (M.put (.int .i64 (q : Int)) (.held W.heap.size))) (hg : W5.grownBy w6 (some gm)) :
    ∃ S' E' T' bs', HeldAt w6 (fun j => Y j ∨ j = W.heap.size) gm (nb + 1) (M.put (.int .i64 (q : Int)) (.held W.heap.size)) S' E' T' bs' f ∧ S' q = true ∧ E' q = W.heap.size ∧ Only (fun j => j = gm) W w6 := by
  have hb5 : Below W.heap.size W W5 := by rw [h5]; exact below_alloc _ _
  have hx5 : W5.heap[W.heap.size]? = some (.cells ZC 82) := by rw [h5]; exact heap_new _ _ _ rfl
  have hgm := h.lt.1
  have ho : Only (fun j => j = gm) W w6 := (Only.of_below hb5).thn (fun j hj => .inl hj) ((only_row7 hg).mono fun j hj => (Option.some.inj hj).symm)
  have hb : BlkAt w6 W.heap.size 0 (List.replicate 64 0) := by
    unfold BlkAt
    rw [hg.block _ (lt_of_heap hx5) (fun e => by have := Option.some.inj e; omega), hx5, hZ]
  have h7 := h.added hS (w' := w6) (Y := fun j => Y j ∨ j = W.heap.size) (fun k hk => .inl hk) (.inr rfl) hnb h6 hb fun k _ hk hne => ho.block k hk hne
  exact ⟨_, _, _, _, h7, by simp, by simp, ho⟩

theorem HG6z {W w6 : World} {o : Obj} {row : Option Nat} (h : (W.alloc o).grownBy w6 row) : W.heap.size < w6.heap.size := by
  have := h.size
  simp at this
  omega

theorem ov_some {f : Nat → Option UInt8} {pos i : Nat} {b : List UInt8} (h : (f i).isSome = true) : (ov f pos b i).isSome = true := by
  unfold ov
  split
  · rw [List.getElem?_eq_getElem (by omega)]; rfl
  · exact h

theorem ov_any {f : Nat → Option UInt8} {pos i : Nat} {b : List UInt8} (h : (ov f pos b i).isSome = true) : i < pos + b.length ∨ (f i).isSome = true := by
  unfold ov at h
  split at h
  · exact .inl (by omega)
  · exact .inr h

/-- What lay leaves. -/
def LayPost (w : World) (X : Nat → Prop) (g nb : Nat) (a0 a1 a2 a3 a4 a7 : Value) (pos : Nat) (b : List UInt8) (f : Nat → Option UInt8) (e : Ending) (w' : World) : Prop :=
  e = .returned (.tuple #[]) ∧ Only (fun k => X k ∨ k = g) w w' ∧ ∃ Y gm nb' fj, Held w' Y gm nb' (ov f pos b) ∧ nb' ≤ nb + b.length ∧ (∀ j, Y j → X j ∨ (w.heap.size ≤ j ∧ j < w'.heap.size)) ∧ ¬ Y g ∧ HpRow w' g a0 a1 a2 a3 a4 (.map (some gm)) fj a7 ∧ (∀ i, i < fj → (ov f pos b i).isSome = true) ∧ (ov f pos b fj).isSome = false

set_option maxRecDepth 100000 in
set_option maxHeartbeats 4000000 in
theorem LayOn_any (w : World) (X : Nat → Prop) (g gm nb fi : Nat) (a0 a1 a2 a3 a4 a7 : Value) (M : DataW Nat) (S : Nat → Bool) (E T : Nat → Nat) (bs : Nat → List UInt8) (f : Nat → Option UInt8) (h : HeldAt w X gm nb M S E T bs f) (hX : ¬ X g ∧ ∀ k, X k → k < w.heap.size) (hr : HpRow w g a0 a1 a2 a3 a4 (.map (some gm)) fi a7) (hnb : nb ≤ 1000000000)
    (pos : Nat) (b : List UInt8) (F : Nat → Prop) (v : Value) (hv : RepB w F b v) (hF : ∀ k, F k → k < w.heap.size ∧ ¬ X k ∧ k ≠ g) (hp : pos ≤ 100000) (hn : b.length ≤ 100000) (ht : Hid (Tz w)) (hg1 : g ≠ 1 ∧ ¬ X 1)
    (hf : ∀ i, i < fi → (f i).isSome = true) (hfN : ∀ k, (f k).isSome = true → k < 100000) :
    Calls Tryd.prog 33 #[.pointer (some ⟨g, 5, none⟩), .int .i64 (pos : Int), v] w (LayPost w X g nb a0 a1 a2 a3 a4 a7 pos b f) := by
  obtain ⟨a, cap, rfl, -⟩ := hv.slice
  have hcap : b.length ≤ cap ∧ cap ≤ 9223372036854775807 := by
    rcases hv with ⟨h, a', c', he, hc, -⟩ | ⟨_, _, c', he, -, h1, h2, -⟩
    · rw [h] at he ⊢; cases he; exact ⟨by simp, hc⟩
    · cases he; exact ⟨h1, h2⟩
  have haa : 0 < b.length → ∃ g off, a = some ⟨g, off, none⟩ := fun h0 => by
    rcases hv with ⟨h, -⟩ | ⟨g2, off, c', he, -⟩
    · rw [h] at h0; simp at h0
    · cases he; exact ⟨g2, off, rfl⟩
  obtain ⟨W2, hW2⟩ : ∃ W2, W2 = w.alloc (.cells #[.pointer (some ⟨g, 5, none⟩)] 79) := ⟨_, rfl⟩
  obtain ⟨n, hnn⟩ : ∃ n, n = b.length := ⟨_, rfl⟩
  obtain ⟨W4, hW4⟩ : ∃ W4, W4 = (W2.alloc (.cells #[.int .i64 (pos : Int)] 3)).alloc (.cells #[.slice a n cap] 24) := ⟨_, rfl⟩
  obtain ⟨z2, hz2e⟩ : ∃ z2, z2 = w.heap.size + 1 := ⟨_, rfl⟩
  have hz2 : W2.heap.size = z2 := by rw [hW2, hz2e]; simp
  have hwz : w.heap.size < z2 := by omega
  have hz4 : W4.heap.size = z2 + 2 := by rw [hW4]; simp [hz2]
  obtain ⟨X2, hX2⟩ : ∃ X2, X2 = X := ⟨_, rfl⟩
  have hb2 : Below w.heap.size w W2 := by rw [hW2]; exact below_alloc _ _
  have hb24 : Below W2.heap.size W2 W4 := by rw [hW4]; exact ((Below.refl _ W2).alloc (Nat.le_refl _) _).alloc (by simp) _
  have hb4 : Below w.heap.size w W4 := hb2.trans (hb24.mono hb2.size)
  have hx02 : W2.heap[w.heap.size]? = some (.cells #[.pointer (some ⟨g, 5, none⟩)] 79) := by rw [hW2]; exact heap_new _ _ _ rfl
  have hx0 := old_below hx02 hb24
  have hx2 : W4.heap[z2]? = some (.cells #[.int .i64 (pos : Int)] 3) := by rw [hW4]; exact old_alloc (heap_new _ _ _ hz2.symm)
  have hx3 : W4.heap[z2 + 1]? = some (.cells #[.slice a n cap] 24) := by rw [hW4]; exact heap_new _ _ _ (by simp [hz2])
  have h4 : HeldAt W4 X2 gm nb M S E T bs f := by rw [hX2]; exact h.next hb4
  have hr4 : HpRow W4 g a0 a1 a2 a3 a4 (.map (some gm)) fi a7 := old_below hr hb4
  have hr2 : HpRow W2 g a0 a1 a2 a3 a4 (.map (some gm)) fi a7 := old_below hr hb2
  have hv4 : RepB W4 (fun k => k < w.heap.size ∧ ¬ X2 k) b (.slice a b.length cap) := hv.same (fun k hk => ⟨(hF k hk).1, by rw [hX2]; exact (hF k hk).2.1⟩) fun k hk => hb4.block k (hF k hk).1
  have HN := Lib.hid hnn
  have HW2 := Lib.hid hW2
  have HW4 := Lib.hid hW4
  have HX0 := Lib.hid hx0
  have HX2 := Lib.hid hx2
  have HX3 := Lib.hid hx3
  have H4 := Lib.hid h4
  have HR4 := Lib.hid hr4
  have HV4 := Lib.hid hv4
  have HZ := Lib.hid hz4
  have HZ2 := Lib.hid hz2
  have HB4 : Hid (Only (fun j => X j ∨ j = g) w W4) := Lib.hid (Only.of_below hb4)
  have HAA := Lib.hid haa
  have HCAP := Lib.hid hcap
  have HBN := Lib.hid hn
  have HXX : Hid (¬ X2 g ∧ ∀ k, X2 k → k < z2 ∧ k ≠ w.heap.size) := Lib.hid ⟨by rw [hX2]; exact hX.1, fun k hk => by rw [hX2] at hk; have := hX.2 k hk; omega⟩
  have HXS : Hid (∀ j, X2 j → X j ∨ w.heap.size ≤ j) := Lib.hid fun j hj => .inl (by rw [← hX2]; exact hj)
  have HFA := Lib.hid hf
  have HFN := Lib.hid hfN
  have HG1 : Hid (g ≠ 1 ∧ ¬ X2 1) := Lib.hid ⟨hg1.1, by rw [hX2]; exact hg1.2⟩
  have HT4 : Hid (Tz W4) := Lib.hid (ht.out.next hb4)
  have hgw : g < w.heap.size := lt_of_heap hr
  obtain ⟨⟨-, -, -, -, -, c5, -, -⟩, -, -⟩ := hr.cells
  rw [← hnn]
  have hmn : ∀ (w : World) (r : Option Nat), (binOp .eql 60 (.map r) (.map none)).run Tryd.prog w = .ok (.bool r.isNone) w := fun w r => run_eql_map_nil w _ _ _ r Tryd.underlying60
  clear hW2 hW4 hz2 hz4 hb2 hb24 hb4 hx0 hx02 hx2 hx3 h4 hr4 hr2 hv4 haa hcap h hr hv hF hn hnn hX hf hfN hg1 hz2e hX2
  refine (callsIn_wide (n := 3)).1 ?_
  refine callsIn_of_wp_marks Tryd.func33 rfl trivial ?_ rfl
  simp only [Tryd.ntmps33, List.size_toArray, List.length_cons, List.length_nil, Nat.reduceAdd, Nat.reduceSub, Array.replicate_succ, Array.replicate_zero, List.push_toArray, List.append_toArray, List.nil_append, List.cons_append]
  gi_wp2_with (first | (refine ⟨trivial, ?_⟩; gi_at_call 36; rw [← HW2.out]; refine (callsIn_wide.2 (parts_any _ _ _ _ _)).mono ?_; rintro e w4 ⟨rfl, rfl⟩; rw [← HW4.out, HZ2.out]))
  clear hmn c5
  have HIN : Hid (∀ (l : Nat) (J Jx : Nat → World → Prop) (W : World), (∀ k W, k ≤ dns pos n → J k W → PartsAt (z2) pos a n cap W) →
      (∀ k W1, k < dns pos n → J k W1 → YieldAt Fence.wide (3 - 1 - 1) Tryd.prog l (partEnc pos a n cap k) W1 fun e W' => (e = .returned (.bool true) ∧ J (k + 1) W') ∨ (e = .returned (.bool false) ∧ Jx k W')) → J 0 W →
      CallsIn Fence.wide (3 - 1) Tryd.prog 41 (#[.func (.yield l) #[] #[]] ++ #[.pointer (some ⟨z2 + 1, 0, none⟩), .pointer (some ⟨z2, 0, none⟩)]) W fun e W' => (∃ v, e = .returned v) ∧ (J (dns pos n) W' ∨ ∃ k, Jx k W')) :=
    Lib.hid fun l J Jx W hJ hY h0 => parts_in Fence.wide 2 trivial rfl (by omega) l (z2) pos a n cap (fun h => HAA.out (by rw [← HN.out]; exact h)) (by omega) (by have := HN.out; have := HBN.out; omega) (by rw [HN.out]; exact HCAP.out) J Jx hJ hY W h0
  have hKP : ¬ X2 w.heap.size ∧ ∀ j, z2 ≤ j → ¬ X2 j := ⟨fun hx => (HXX.out.2 _ hx).2 rfl, fun j hj hx => by have := HXX.out.2 j hx; omega⟩
  have HKP := Lib.hid hKP
  have hgml := H4.out.lt.1
  have hgm0 : X2 gm := H4.out.foot.1
  refine wpIn_rangeFunc_by (F := Fence.wide) (n := 3) rfl (by omega) (gf := 41) (lb := #[.pointer (some ⟨z2 + 1, 0, none⟩), .pointer (some ⟨z2, 0, none⟩)]) rfl trivial (enters_of Tryd.func41 (by kernel_rfl) rfl)
    (dns pos n) (partEnc pos a n cap) (fun _ => rfl) (fun _ W => PartsAt (z2) pos a n cap W) HIN.out
    (LayAt W4 X2 gm nb pos b f) (fun _ _ _ => False)
    (fun s W W' row hs hg hr => hs.beside (by have := HXX.out.2 gm hgm0; have := HZ.out; omega) hg hr)
    (fun c s W W' row hs hg hr => hs)
    (fun k W _ hs => ⟨cell_of_row _ _ 0 _ _ _ ((hs.1.block _ (lt_of_heap HX2.out) (HKP.out.2 _ (by omega))).trans HX2.out), cell_of_row _ _ 0 _ _ _ ((hs.1.block _ (lt_of_heap HX3.out) (HKP.out.2 _ (by omega))).trans HX3.out)⟩)
    ⟨Only.refl _ _, X2, nb, M, S, E, T, bs, by rw [dn_zero, List.take_zero, ov_nil]; exact H4.out, by omega, fun j hj => .inl hj⟩
    (fun k a' _ => a' = { tmps := #[.pointer (some ⟨g, 5, none⟩), .int .i64 (pos : Int), .slice a n cap, .pointer (some ⟨w.heap.size, 0, none⟩), undef, undef, .int .i64 ((pos : Int) + (dn pos n k : Int)), cutV a cap (dn pos n k) (dn pos n (k + 1)), undef, .pointer (some ⟨g, 5, none⟩), .pointer (some ⟨g, 5, none⟩), .pointer (some ⟨g, 5, none⟩), .map (some gm), .bool false, undef, undef, undef, undef, .int .i64 (pos : Int), .slice a n cap, .func (.func 41) #[] #[.pointer (some ⟨z2 + 1, 0, none⟩), .pointer (some ⟨z2, 0, none⟩)], .int .i64 ((pos : Int) + (dn pos n k : Int)), cutV a cap (dn pos n k) (dn pos n (k + 1)), undef, undef, undef, undef, undef, undef, undef, undef, undef, undef, undef, undef, undef, undef, undef, undef, undef, undef, undef, undef, undef, undef, undef, undef, undef], defers := [] })
    (fun _ _ _ _ _ hs _ _ => hs) ?assign ?body ?done (fun _ _ _ _ _ h => h.elim)
  case assign =>
    intro l k W K hI hk hK
    unfold partEnc
    gi_wp2
    exact hK _ _ (KeepsFrom.refl _ _) hI rfl
  case body =>
    rintro l k a' W ⟨ho, Y, nb', M', S', E', T', bs', hat, hnb', hY⟩ rfl hk
    have hrW : HpRow W g a0 a1 a2 a3 a4 (.map (some gm)) fi a7 := (ho.block g (lt_of_heap HR4.out) HXX.out.1).trans HR4.out
    obtain ⟨⟨-, -, -, -, -, c5, -, -⟩, -, cz⟩ := hrW.cells
    have hx0W := (ho.block w.heap.size (lt_of_heap HX0.out) HKP.out.1).trans HX0.out
    obtain ⟨p0, -, pz⟩ := block1 hx0W
    obtain ⟨q, hq⟩ : ∃ q, q = pos / 64 + k := ⟨_, rfl⟩
    obtain ⟨d, hd⟩ : ∃ d, d = dn pos n k := ⟨_, rfl⟩
    obtain ⟨r, hr⟩ : ∃ r, r = (pos + d) % 64 := ⟨_, rfl⟩
    have hda := dn_at hk
    have hdl := dn_lt hk
    obtain ⟨hd1, hd2⟩ := dn_part hk
    have hd3 := dn_le pos n (k + 1)
    have hkn := dns_le pos n
    rw [← hd, ← hq] at hda
    rw [← hd] at hdl hd1 hd2
    rw [← hr] at hd2
    have hnb2 : n ≤ 100000 := by have := HN.out; have := HBN.out; omega
    have hdb : d ≤ 100000 := by omega
    have e1 : ((pos : Int) + (d : Int)) / 64 = (q : Int) := by omega
    have e2 : ((pos : Int) + (d : Int)) % 64 = (r : Int) := by omega
    have hpl : (partOf pos b k).length = dn pos n (k + 1) - d := by rw [partOf_length, ← HN.out, ← hd]
    have hrl : r + (partOf pos b k).length ≤ 64 := by rw [hpl]; exact hd2
    have hqr : 64 * q + r = pos + dn pos b.length k := by rw [← HN.out, ← hd]; omega
    have hp0 : 0 < (partOf pos b k).length := by omega
    have hpv : RepB W (fun k => k < w.heap.size ∧ ¬ X2 k) (partOf pos b k) (cutV a cap (dn pos n k) (dn pos n (k + 1))) := by
      have h1 := HV4.out.same (fun _ h => h) (fun k hk => ho.block k (by have := HZ.out; omega) hk.2) (w' := W)
      have h2 := h1.cut (i := dn pos n k) (j := dn pos n (k + 1)) (by rw [← hd]; exact hd1) (by rw [← HN.out]; exact hd3)
      unfold partOf
      rw [← HN.out]
      exact h2
    obtain ⟨pv, hpe⟩ : ∃ pv, pv = cutV a cap (dn pos n k) (dn pos n (k + 1)) := ⟨_, rfl⟩
    rw [← hpe] at hpv
    rw [← hd] at hpe
    rw [← hd, ← hpe]
    have HPV := Lib.hid hpv
    have HLK := hat.look (q := q) (by omega) (w' := W) rfl
    have HO := Lib.hid ho
    have HAT := Lib.hid hat
    have HPL := Lib.hid hrl
    have HQR := Lib.hid hqr
    have HP0 := Lib.hid hp0
    have HY := Lib.hid hY
    have HNB : Hid (nb' + 1 ≤ nb + (k + 1) ∧ nb' < 1000100000) := Lib.hid (by omega)
    have HKD := Lib.hid hk
    have HQB : Hid (q ≤ 1000000) := Lib.hid (by omega)
    have HX0W := Lib.hid hx0W
    have HRW := Lib.hid hrW
    unfold ptrAt at HLK
    clear hat hq hr hd hda hdl hd1 hd2 hd3 hpl hrl hqr hpv hpe hp0 ho hY hnb' hrW hx0W hkn hk
    cases hS : S' q with
    | true =>
      rw [hS] at HLK
      simp only [if_true] at HLK
      have HB := Lib.hid (BlkLay_any (E' q) (T' q) r (bs' q) (partOf pos b k) _ pv W (HAT.out.each q hS).1 (HAT.out.each q hS).2.1 (HAT.out.each q hS).2.2.1 HPL.out HP0.out HPV.out (fun hf => by
        rcases HY.out _ (HAT.out.foot.2 q hS) with h | h
        · exact hf.2 h
        · have := HZ.out; omega))
      have HS := Lib.hid hS
      clear hS
      gi_wp2_with (refine ⟨trivial, ?_⟩; gi_at_call 38; refine (CallsIn.inRound l (callsIn_wide.2 HB.out)).mono ?_; rintro e w' ⟨rfl, ho', hb'⟩; have HO' := Lib.hid ho'; have HB' := Lib.hid hb'; clear ho' hb')
      exact LayAt.laid HO.out HAT.out (by have := HNB.out; omega) HY.out (by rw [← HN.out]; exact HKD.out) HS.out HQR.out HPL.out HO'.out HB'.out
    | false =>
      rw [hS] at HLK
      simp only [Bool.false_eq_true, if_false] at HLK
      have HS := Lib.hid hS
      clear hS
      obtain ⟨ZC, hzv, HZC⟩ := zero_block
      obtain ⟨w6, hrun, hown6, hgrow6⟩ := (HAT.out.map.alloc (.cells ZC 82)).update lawInt Tryd.underlying60 (by unfold maxLen; have := HNB.out; omega) (key_int (q := q) (by have := HQB.out; omega)) (show ptrElem (.pointer (some ⟨W.heap.size, 0, none⟩)) = some (.held W.heap.size, []) from rfl)
      have HNX : Hid (¬ Y W.heap.size) := Lib.hid fun h => by
        rcases HY.out _ h with h | h
        · have h1 := HXX.out.2 _ h
          have h2 := HO.out.size
          have h3 := HZ.out
          omega
        · omega
      obtain ⟨S6, E6, T6, bs6, hat6, hs6, he6, ho6⟩ := HAT.out.made HS.out HZC.out rfl HNX.out hown6 hgrow6
      have hz6 := HG6z hgrow6
      have hpv6 : RepB w6 (fun k => k < w.heap.size ∧ ¬ X2 k) (partOf pos b k) pv := HPV.out.same (fun _ h => h) fun j hj => ho6.block j (by have := HO.out.size; have := HZ.out; omega) fun e => hj.2 (by rw [e]; exact hgm0)
      have HB := Lib.hid (BlkLay_any (E6 q) (T6 q) r (bs6 q) (partOf pos b k) _ pv w6 (hat6.each q hs6).1 (hat6.each q hs6).2.1 (hat6.each q hs6).2.2.1 HPL.out HP0.out hpv6 (fun hf => by
        rw [he6] at hf
        have := HO.out.size; have := HZ.out; omega))
      rw [he6] at HB
      have HAT6 := Lib.hid hat6
      have HS6 := Lib.hid hs6
      have HE6 := Lib.hid he6
      have HO6 := Lib.hid ho6
      have HZ6 := Lib.hid hz6
      clear hat6 hs6 he6 ho6 hz6 hpv6 hown6 hgrow6
      gi_wp2_with (refine ⟨trivial, ?_⟩; gi_at_call 38; refine (CallsIn.inRound l (callsIn_wide.2 HB.out)).mono ?_; rintro e w' ⟨rfl, ho', hb'⟩; have HO' := Lib.hid ho'; have HB' := Lib.hid hb'; clear ho' hb')
      have hk6 : KeepsFrom W4.heap.size W w6 := keeps_only7 HO6.out fun k hk => by have := HXX.out.2 gm hgm0; have := HZ.out; omega
      have hfin := LayAt.laid (HO.out.thn (fun j hj => .inl (by rw [hj]; exact hgm0)) HO6.out) HAT6.out HNB.out.1 (fun j hj => by
        rcases hj with hj | hj
        · rcases HY.out j hj with h | h
          · exact .inl h
          · exact .inr ⟨h.1, Nat.lt_of_lt_of_le h.2 HO6.out.size⟩
        · exact .inr ⟨by rw [hj]; exact HO.out.size, by rw [hj]; exact HZ6.out⟩) (by rw [← HN.out]; exact HKD.out) HS6.out HQR.out HPL.out (by rw [HE6.out]; exact HO'.out) (by rw [HE6.out]; exact HB'.out)
      exact ⟨hk6.trans hfin.1, hfin.2⟩
  case done =>
    rintro D W hD ⟨ho, Y, nb', M', S', E', T', bs', hat, hnb', hY⟩ hK
    rw [HN.out, ov_all] at hat
    have hYg : ¬ Y g := fun h => by
      rcases hY g h with h | h
      · exact HXX.out.1 h
      · have := HZ.out; omega
    have hrW : HpRow W g a0 a1 a2 a3 a4 (.map (some gm)) fi a7 := (ho.block g (lt_of_heap HR4.out) HXX.out.1).trans HR4.out
    have hx0W := (ho.block w.heap.size (lt_of_heap HX0.out) HKP.out.1).trans HX0.out
    obtain ⟨p0, -, pz⟩ := block1 hx0W
    have HAD := Lib.hid (Advance_any W Y g gm nb' 200000 fi a0 a1 a2 a3 a4 a7 M' S' E' T' bs' (ov f pos b) hat hYg hrW (fun i hi => ov_some (HFA.out i hi)) (fun k hk => by
      have := HBN.out
      rcases ov_any hk with h | h
      · omega
      · have := HFN.out k h; omega) (by omega) (Lib.hid (HT4.out.only ho HG1.out.2)) HG1.out.1)
    have HO := Lib.hid ho
    have HAT := Lib.hid hat
    have HY := Lib.hid hY
    have HYG := Lib.hid hYg
    have HK := Lib.hid hK
    have HNB : Hid (nb' ≤ nb + b.length) := Lib.hid (by have := dns_le pos n; have := HN.out; omega)
    clear ho hat hY hYg hrW hx0W hK hnb'
    gi_wp2_with (refine ⟨trivial, ?_⟩; gi_at_call 39; refine (callsIn_wide.2 HAD.out).mono ?_; rintro e w2 ⟨rfl, ho2, hp2⟩; have HO2 := Lib.hid ho2; have HP2 := Lib.hid hp2; clear ho2 hp2)
    have hK2 : w2.heap[D]? = some (.deferred (some [])) := (HO2.out.block D (lt_of_heap HK.out) (by have := HZ.out; omega)).trans HK.out
    have hfin : Only (fun j => j = g ∨ j = D) W (w2.putObj D (.deferred none)) := (HO2.out.mono fun q hq => .inl hq).thn (fun q hq => .inl hq) ((only_row7 (grownBy_putObj' w2 D (.deferred none))).mono fun q hq => .inr (Option.some.inj hq).symm)
    have hall : Only (fun j => X j ∨ j = g) w (w2.putObj D (.deferred none)) := (HB4.out.thn (X := fun j => X j ∨ j = g) (fun j hj => by
      rcases HXS.out j hj with h | h
      · exact .inl (.inl h)
      · exact .inr h) HO.out).thn (fun j hj => by
      rcases hj with hj | hj
      · exact .inl (.inr hj)
      · right; have := HZ.out; omega) hfin
    have hat2 := HAT.out.same (Nat.le_refl _) (fun _ h => h) (fun j hj hlt => HO2.out.block j hlt fun e => HYG.out (e ▸ hj))
    have hat3 := hat2.beside (B := W4.heap.size) (by have := HXX.out.2 gm hgm0; have := HZ.out; omega) (grownBy_putObj' w2 D (.deferred none)) (fun r e => by cases e; exact ⟨hD, _, hK2, rfl⟩)
    refine ⟨by simp, .inl ⟨_, _, rfl, run_takeDeferred hK2, ?_⟩⟩
    refine ⟨.tuple #[], by simp [results, Tryd.f33, go_sem], rfl, hall, Y, gm, nb', ?_⟩
    obtain ⟨fj, h1, h2, h3⟩ := HP2.out
    refine ⟨fj, ⟨M', S', E', T', bs', hat3⟩, HNB.out, fun j hj => ?_, HYG.out, ?_, h2, h3⟩
    · rcases HY.out j hj with h | h
      · rcases HXS.out j h with h2 | h2
        · exact .inl h2
        · refine .inr ⟨h2, ?_⟩
          have := HXX.out.2 j h
          have := HO.out.size
          have := HZ.out
          have := HO2.out.size
          have := (only_row7 (grownBy_putObj' w2 D (.deferred none))).size
          omega
      · refine .inr ⟨by have := HZ.out; omega, ?_⟩
        have := HO2.out.size
        have := (only_row7 (grownBy_putObj' w2 D (.deferred none))).size
        omega
    · exact (World.putObj_heap_other (by have := HZ.out; omega)).trans h1

set_option maxRecDepth 100000 in
set_option maxHeartbeats 4000000 in
theorem LayNew_any (w : World) (g : Nat) (a0 a1 a2 a3 a4 a7 : Value) (hr : HpRow w g a0 a1 a2 a3 a4 (.map none) 0 a7)
    (pos : Nat) (b : List UInt8) (F : Nat → Prop) (v : Value) (hv : RepB w F b v) (hF : ∀ k, F k → k < w.heap.size ∧ k ≠ g) (hp : pos ≤ 100000) (hn : b.length ≤ 100000) (ht : Hid (Tz w)) (hg1 : g ≠ 1) :
    Calls Tryd.prog 33 #[.pointer (some ⟨g, 5, none⟩), .int .i64 (pos : Int), v] w (LayPost w (fun _ => False) g 0 a0 a1 a2 a3 a4 a7 pos b (fun _ => none)) := by
  obtain ⟨X, hXe⟩ : ∃ X : Nat → Prop, X = fun _ => False := ⟨_, rfl⟩
  obtain ⟨f, hfe⟩ : ∃ f : Nat → Option UInt8, f = fun _ => none := ⟨_, rfl⟩
  obtain ⟨gm, hgme⟩ : ∃ gm, gm = w.heap.size + 1 := ⟨_, rfl⟩
  obtain ⟨nb, hnb0⟩ : ∃ nb : Nat, nb = 0 := ⟨_, rfl⟩
  obtain ⟨fi, hfi0⟩ : ∃ fi : Nat, fi = 0 := ⟨_, rfl⟩
  have hnb : nb ≤ 1000000000 := by omega
  rw [← hXe, ← hfe]
  rw [← hnb0]
  rw [← hfi0] at hr
  obtain ⟨a, cap, rfl, -⟩ := hv.slice
  have hcap : b.length ≤ cap ∧ cap ≤ 9223372036854775807 := by
    rcases hv with ⟨h, a', c', he, hc, -⟩ | ⟨_, _, c', he, -, h1, h2, -⟩
    · rw [h] at he ⊢; cases he; exact ⟨by simp, hc⟩
    · cases he; exact ⟨h1, h2⟩
  have haa : 0 < b.length → ∃ g off, a = some ⟨g, off, none⟩ := fun h0 => by
    rcases hv with ⟨h, -⟩ | ⟨g2, off, c', he, -⟩
    · rw [h] at h0; simp at h0
    · cases he; exact ⟨g2, off, rfl⟩
  obtain ⟨W2, hW2⟩ : ∃ W2, W2 = ((w.setCell ⟨g, 5, none⟩ (.map (some (w.heap.size + 1)))).alloc (.cells #[.pointer (some ⟨g, 5, none⟩)] 79)).alloc (.map #[] 0) := ⟨_, rfl⟩
  obtain ⟨n, hnn⟩ : ∃ n, n = b.length := ⟨_, rfl⟩
  obtain ⟨W4, hW4⟩ : ∃ W4, W4 = (W2.alloc (.cells #[.int .i64 (pos : Int)] 3)).alloc (.cells #[.slice a n cap] 24) := ⟨_, rfl⟩
  obtain ⟨z2, hz2e⟩ : ∃ z2, z2 = w.heap.size + 2 := ⟨_, rfl⟩
  have hz2 : W2.heap.size = z2 := by rw [hW2, hz2e]; simp
  have hwz : w.heap.size < z2 := by omega
  have hz4 : W4.heap.size = z2 + 2 := by rw [hW4]; simp [hz2]
  obtain ⟨X2, hX2⟩ : ∃ X2 : Nat → Prop, X2 = fun k => k = gm := ⟨_, rfl⟩
  have hgw : g < w.heap.size := lt_of_heap hr
  have hb2 : Only (fun k => k = g) w W2 := by rw [hW2]; exact (((Only.refl (fun k => k = g) w).set (.inl rfl) _).alloc _).alloc _
  have hb24 : Below W2.heap.size W2 W4 := by rw [hW4]; exact ((Below.refl _ W2).alloc (Nat.le_refl _) _).alloc (by simp) _
  have hb4 : Only (fun k => k = g) w W4 := hb2.next hb24
  have hx02 : W2.heap[w.heap.size]? = some (.cells #[.pointer (some ⟨g, 5, none⟩)] 79) := by rw [hW2]; exact old_alloc (heap_new _ _ _ (by simp))
  have hx0 := old_below hx02 hb24
  have hxm2 : W2.heap[gm]? = some (.map #[] 0) := by rw [hW2, hgme]; exact heap_new _ _ _ (by simp)
  have hxm := old_below hxm2 hb24
  have hx2 : W4.heap[z2]? = some (.cells #[.int .i64 (pos : Int)] 3) := by rw [hW4]; exact old_alloc (heap_new _ _ _ hz2.symm)
  have hx3 : W4.heap[z2 + 1]? = some (.cells #[.slice a n cap] 24) := by rw [hW4]; exact heap_new _ _ _ (by simp [hz2])
  obtain ⟨M, S, E, T, bs, h4⟩ : ∃ M S E T bs, HeldAt W4 X2 gm nb M S E T bs f := by rw [hfe, hX2, hnb0]; exact ⟨_, _, _, _, _, HeldAt.new hxm rfl⟩
  have hr2 : HpRow W2 g a0 a1 a2 a3 a4 (.map (some gm)) fi a7 := by
    rw [hW2, hgme]
    exact old_alloc (old_alloc (HpRow.put5 hr))
  have hr4 : HpRow W4 g a0 a1 a2 a3 a4 (.map (some gm)) fi a7 := old_below hr2 hb24
  have hv4 : RepB W4 (fun k => k < w.heap.size ∧ ¬ X2 k) b (.slice a b.length cap) := hv.same (fun k hk => ⟨(hF k hk).1, by rw [hX2]; intro e; have := (hF k hk).1; have e : k = gm := e; omega⟩) fun k hk => hb4.block k (hF k hk).1 (hF k hk).2
  have HN := Lib.hid hnn
  have HW2 := Lib.hid hW2
  have HW4 := Lib.hid hW4
  have HX0 := Lib.hid hx0
  have HX2 := Lib.hid hx2
  have HX3 := Lib.hid hx3
  have H4 := Lib.hid h4
  have HR4 := Lib.hid hr4
  have HV4 := Lib.hid hv4
  have HZ := Lib.hid hz4
  have HZ2 := Lib.hid hz2
  have HB4 : Hid (Only (fun j => X j ∨ j = g) w W4) := Lib.hid (hb4.mono fun k hk => .inr hk)
  have HAA := Lib.hid haa
  have HCAP := Lib.hid hcap
  have HBN := Lib.hid hn
  have HXX : Hid (¬ X2 g ∧ ∀ k, X2 k → k < z2 ∧ k ≠ w.heap.size) := Lib.hid ⟨by rw [hX2]; show ¬ g = gm; omega, fun k hk => by rw [hX2] at hk; have hk : k = gm := hk; omega⟩
  have HXS : Hid (∀ j, X2 j → X j ∨ w.heap.size ≤ j) := Lib.hid fun j hj => .inr (by rw [hX2] at hj; have hj : j = gm := hj; omega)
  have HFA : Hid (∀ i, i < fi → (f i).isSome = true) := Lib.hid fun i hi => by omega
  have HFN : Hid (∀ k, (f k).isSome = true → k < 100000) := Lib.hid fun k hk => by rw [hfe] at hk; cases hk
  have HG1 : Hid (g ≠ 1 ∧ ¬ X2 1) := Lib.hid ⟨hg1, by rw [hX2]; have := ht.out.1; show ¬ _ = gm; omega⟩
  have HT4 : Hid (Tz W4) := Lib.hid (ht.out.only hb4 fun e => hg1 e.symm)
  obtain ⟨⟨-, -, -, -, -, c5, -, -⟩, hfz, -⟩ := hr.cells
  have f5 := hfz 5
  rw [← hnn]
  have hmm := @run_makeMap Tryd.prog
  have hmn : ∀ (w : World) (r : Option Nat), (binOp .eql 60 (.map r) (.map none)).run Tryd.prog w = .ok (.bool r.isNone) w := fun w r => run_eql_map_nil w _ _ _ r Tryd.underlying60
  clear hW2 hW4 hz2 hz4 hb2 hb24 hb4 hx0 hx02 hx2 hx3 h4 hr4 hr2 hv4 haa hcap hr hv hF hn hnn hg1 hz2e hX2 hxm hxm2 hfz hgme hXe hfe hnb0 hfi0
  refine (callsIn_wide (n := 3)).1 ?_
  refine callsIn_of_wp_marks Tryd.func33 rfl trivial ?_ rfl
  simp only [Tryd.ntmps33, List.size_toArray, List.length_cons, List.length_nil, Nat.reduceAdd, Nat.reduceSub, Array.replicate_succ, Array.replicate_zero, List.push_toArray, List.append_toArray, List.nil_append, List.cons_append]
  gi_wp2_with (first | (refine ⟨trivial, ?_⟩; gi_at_call 36; rw [← HW2.out]; refine (callsIn_wide.2 (parts_any _ _ _ _ _)).mono ?_; rintro e w4 ⟨rfl, rfl⟩; rw [← HW4.out, HZ2.out]))
  clear f5 hmm
  clear hmn c5
  have HIN : Hid (∀ (l : Nat) (J Jx : Nat → World → Prop) (W : World), (∀ k W, k ≤ dns pos n → J k W → PartsAt (z2) pos a n cap W) →
      (∀ k W1, k < dns pos n → J k W1 → YieldAt Fence.wide (3 - 1 - 1) Tryd.prog l (partEnc pos a n cap k) W1 fun e W' => (e = .returned (.bool true) ∧ J (k + 1) W') ∨ (e = .returned (.bool false) ∧ Jx k W')) → J 0 W →
      CallsIn Fence.wide (3 - 1) Tryd.prog 41 (#[.func (.yield l) #[] #[]] ++ #[.pointer (some ⟨z2 + 1, 0, none⟩), .pointer (some ⟨z2, 0, none⟩)]) W fun e W' => (∃ v, e = .returned v) ∧ (J (dns pos n) W' ∨ ∃ k, Jx k W')) :=
    Lib.hid fun l J Jx W hJ hY h0 => parts_in Fence.wide 2 trivial rfl (by omega) l (z2) pos a n cap (fun h => HAA.out (by rw [← HN.out]; exact h)) (by omega) (by have := HN.out; have := HBN.out; omega) (by rw [HN.out]; exact HCAP.out) J Jx hJ hY W h0
  have hKP : ¬ X2 w.heap.size ∧ ∀ j, z2 ≤ j → ¬ X2 j := ⟨fun hx => (HXX.out.2 _ hx).2 rfl, fun j hj hx => by have := HXX.out.2 j hx; omega⟩
  have HKP := Lib.hid hKP
  have hgml := H4.out.lt.1
  have hgm0 : X2 gm := H4.out.foot.1
  refine wpIn_rangeFunc_by (F := Fence.wide) (n := 3) rfl (by omega) (gf := 41) (lb := #[.pointer (some ⟨z2 + 1, 0, none⟩), .pointer (some ⟨z2, 0, none⟩)]) rfl trivial (enters_of Tryd.func41 (by kernel_rfl) rfl)
    (dns pos n) (partEnc pos a n cap) (fun _ => rfl) (fun _ W => PartsAt (z2) pos a n cap W) HIN.out
    (LayAt W4 X2 gm nb pos b f) (fun _ _ _ => False)
    (fun s W W' row hs hg hr => hs.beside (by have := HXX.out.2 gm hgm0; have := HZ.out; omega) hg hr)
    (fun c s W W' row hs hg hr => hs)
    (fun k W _ hs => ⟨cell_of_row _ _ 0 _ _ _ ((hs.1.block _ (lt_of_heap HX2.out) (HKP.out.2 _ (by omega))).trans HX2.out), cell_of_row _ _ 0 _ _ _ ((hs.1.block _ (lt_of_heap HX3.out) (HKP.out.2 _ (by omega))).trans HX3.out)⟩)
    ⟨Only.refl _ _, X2, nb, M, S, E, T, bs, by rw [dn_zero, List.take_zero, ov_nil]; exact H4.out, by omega, fun j hj => .inl hj⟩
    (fun k a' _ => a' = { tmps := #[.pointer (some ⟨g, 5, none⟩), .int .i64 (pos : Int), .slice a n cap, .pointer (some ⟨w.heap.size, 0, none⟩), undef, undef, .int .i64 ((pos : Int) + (dn pos n k : Int)), cutV a cap (dn pos n k) (dn pos n (k + 1)), undef, .pointer (some ⟨g, 5, none⟩), .pointer (some ⟨g, 5, none⟩), .pointer (some ⟨g, 5, none⟩), .map none, .bool true, .pointer (some ⟨g, 5, none⟩), .map (some (w.heap.size + 1)), .pointer (some ⟨g, 5, none⟩), .pointer (some ⟨g, 5, none⟩), .int .i64 (pos : Int), .slice a n cap, .func (.func 41) #[] #[.pointer (some ⟨z2 + 1, 0, none⟩), .pointer (some ⟨z2, 0, none⟩)], .int .i64 ((pos : Int) + (dn pos n k : Int)), cutV a cap (dn pos n k) (dn pos n (k + 1)), undef, undef, undef, undef, undef, undef, undef, undef, undef, undef, undef, undef, undef, undef, undef, undef, undef, undef, undef, undef, undef, undef, undef, undef, undef], defers := [] })
    (fun _ _ _ _ _ hs _ _ => hs) ?assign ?body ?done (fun _ _ _ _ _ h => h.elim)
  case assign =>
    intro l k W K hI hk hK
    unfold partEnc
    gi_wp2
    exact hK _ _ (KeepsFrom.refl _ _) hI rfl
  case body =>
    rintro l k a' W ⟨ho, Y, nb', M', S', E', T', bs', hat, hnb', hY⟩ rfl hk
    have hrW : HpRow W g a0 a1 a2 a3 a4 (.map (some gm)) fi a7 := (ho.block g (lt_of_heap HR4.out) HXX.out.1).trans HR4.out
    obtain ⟨⟨-, -, -, -, -, c5, -, -⟩, -, cz⟩ := hrW.cells
    have hx0W := (ho.block w.heap.size (lt_of_heap HX0.out) HKP.out.1).trans HX0.out
    obtain ⟨p0, -, pz⟩ := block1 hx0W
    obtain ⟨q, hq⟩ : ∃ q, q = pos / 64 + k := ⟨_, rfl⟩
    obtain ⟨d, hd⟩ : ∃ d, d = dn pos n k := ⟨_, rfl⟩
    obtain ⟨r, hr⟩ : ∃ r, r = (pos + d) % 64 := ⟨_, rfl⟩
    have hda := dn_at hk
    have hdl := dn_lt hk
    obtain ⟨hd1, hd2⟩ := dn_part hk
    have hd3 := dn_le pos n (k + 1)
    have hkn := dns_le pos n
    rw [← hd, ← hq] at hda
    rw [← hd] at hdl hd1 hd2
    rw [← hr] at hd2
    have hnb2 : n ≤ 100000 := by have := HN.out; have := HBN.out; omega
    have hdb : d ≤ 100000 := by omega
    have e1 : ((pos : Int) + (d : Int)) / 64 = (q : Int) := by omega
    have e2 : ((pos : Int) + (d : Int)) % 64 = (r : Int) := by omega
    have hpl : (partOf pos b k).length = dn pos n (k + 1) - d := by rw [partOf_length, ← HN.out, ← hd]
    have hrl : r + (partOf pos b k).length ≤ 64 := by rw [hpl]; exact hd2
    have hqr : 64 * q + r = pos + dn pos b.length k := by rw [← HN.out, ← hd]; omega
    have hp0 : 0 < (partOf pos b k).length := by omega
    have hpv : RepB W (fun k => k < w.heap.size ∧ ¬ X2 k) (partOf pos b k) (cutV a cap (dn pos n k) (dn pos n (k + 1))) := by
      have h1 := HV4.out.same (fun _ h => h) (fun k hk => ho.block k (by have := HZ.out; omega) hk.2) (w' := W)
      have h2 := h1.cut (i := dn pos n k) (j := dn pos n (k + 1)) (by rw [← hd]; exact hd1) (by rw [← HN.out]; exact hd3)
      unfold partOf
      rw [← HN.out]
      exact h2
    obtain ⟨pv, hpe⟩ : ∃ pv, pv = cutV a cap (dn pos n k) (dn pos n (k + 1)) := ⟨_, rfl⟩
    rw [← hpe] at hpv
    rw [← hd] at hpe
    rw [← hd, ← hpe]
    have HPV := Lib.hid hpv
    have HLK := hat.look (q := q) (by omega) (w' := W) rfl
    have HO := Lib.hid ho
    have HAT := Lib.hid hat
    have HPL := Lib.hid hrl
    have HQR := Lib.hid hqr
    have HP0 := Lib.hid hp0
    have HY := Lib.hid hY
    have HNB : Hid (nb' + 1 ≤ nb + (k + 1) ∧ nb' < 1000100000) := Lib.hid (by omega)
    have HKD := Lib.hid hk
    have HQB : Hid (q ≤ 1000000) := Lib.hid (by omega)
    have HX0W := Lib.hid hx0W
    have HRW := Lib.hid hrW
    unfold ptrAt at HLK
    clear hat hq hr hd hda hdl hd1 hd2 hd3 hpl hrl hqr hpv hpe hp0 ho hY hnb' hrW hx0W hkn hk
    cases hS : S' q with
    | true =>
      rw [hS] at HLK
      simp only [if_true] at HLK
      have HB := Lib.hid (BlkLay_any (E' q) (T' q) r (bs' q) (partOf pos b k) _ pv W (HAT.out.each q hS).1 (HAT.out.each q hS).2.1 (HAT.out.each q hS).2.2.1 HPL.out HP0.out HPV.out (fun hf => by
        rcases HY.out _ (HAT.out.foot.2 q hS) with h | h
        · exact hf.2 h
        · have := HZ.out; omega))
      have HS := Lib.hid hS
      clear hS
      gi_wp2_with (refine ⟨trivial, ?_⟩; gi_at_call 38; refine (CallsIn.inRound l (callsIn_wide.2 HB.out)).mono ?_; rintro e w' ⟨rfl, ho', hb'⟩; have HO' := Lib.hid ho'; have HB' := Lib.hid hb'; clear ho' hb')
      exact LayAt.laid HO.out HAT.out (by have := HNB.out; omega) HY.out (by rw [← HN.out]; exact HKD.out) HS.out HQR.out HPL.out HO'.out HB'.out
    | false =>
      rw [hS] at HLK
      simp only [Bool.false_eq_true, if_false] at HLK
      have HS := Lib.hid hS
      clear hS
      obtain ⟨ZC, hzv, HZC⟩ := zero_block
      obtain ⟨w6, hrun, hown6, hgrow6⟩ := (HAT.out.map.alloc (.cells ZC 82)).update lawInt Tryd.underlying60 (by unfold maxLen; have := HNB.out; omega) (key_int (q := q) (by have := HQB.out; omega)) (show ptrElem (.pointer (some ⟨W.heap.size, 0, none⟩)) = some (.held W.heap.size, []) from rfl)
      have HNX : Hid (¬ Y W.heap.size) := Lib.hid fun h => by
        rcases HY.out _ h with h | h
        · have h1 := HXX.out.2 _ h
          have h2 := HO.out.size
          have h3 := HZ.out
          omega
        · omega
      obtain ⟨S6, E6, T6, bs6, hat6, hs6, he6, ho6⟩ := HAT.out.made HS.out HZC.out rfl HNX.out hown6 hgrow6
      have hz6 := HG6z hgrow6
      have hpv6 : RepB w6 (fun k => k < w.heap.size ∧ ¬ X2 k) (partOf pos b k) pv := HPV.out.same (fun _ h => h) fun j hj => ho6.block j (by have := HO.out.size; have := HZ.out; omega) fun e => hj.2 (by rw [e]; exact hgm0)
      have HB := Lib.hid (BlkLay_any (E6 q) (T6 q) r (bs6 q) (partOf pos b k) _ pv w6 (hat6.each q hs6).1 (hat6.each q hs6).2.1 (hat6.each q hs6).2.2.1 HPL.out HP0.out hpv6 (fun hf => by
        rw [he6] at hf
        have := HO.out.size; have := HZ.out; omega))
      rw [he6] at HB
      have HAT6 := Lib.hid hat6
      have HS6 := Lib.hid hs6
      have HE6 := Lib.hid he6
      have HO6 := Lib.hid ho6
      have HZ6 := Lib.hid hz6
      clear hat6 hs6 he6 ho6 hz6 hpv6 hown6 hgrow6
      gi_wp2_with (refine ⟨trivial, ?_⟩; gi_at_call 38; refine (CallsIn.inRound l (callsIn_wide.2 HB.out)).mono ?_; rintro e w' ⟨rfl, ho', hb'⟩; have HO' := Lib.hid ho'; have HB' := Lib.hid hb'; clear ho' hb')
      have hk6 : KeepsFrom W4.heap.size W w6 := keeps_only7 HO6.out fun k hk => by have := HXX.out.2 gm hgm0; have := HZ.out; omega
      have hfin := LayAt.laid (HO.out.thn (fun j hj => .inl (by rw [hj]; exact hgm0)) HO6.out) HAT6.out HNB.out.1 (fun j hj => by
        rcases hj with hj | hj
        · rcases HY.out j hj with h | h
          · exact .inl h
          · exact .inr ⟨h.1, Nat.lt_of_lt_of_le h.2 HO6.out.size⟩
        · exact .inr ⟨by rw [hj]; exact HO.out.size, by rw [hj]; exact HZ6.out⟩) (by rw [← HN.out]; exact HKD.out) HS6.out HQR.out HPL.out (by rw [HE6.out]; exact HO'.out) (by rw [HE6.out]; exact HB'.out)
      exact ⟨hk6.trans hfin.1, hfin.2⟩
  case done =>
    rintro D W hD ⟨ho, Y, nb', M', S', E', T', bs', hat, hnb', hY⟩ hK
    rw [HN.out, ov_all] at hat
    have hYg : ¬ Y g := fun h => by
      rcases hY g h with h | h
      · exact HXX.out.1 h
      · have := HZ.out; omega
    have hrW : HpRow W g a0 a1 a2 a3 a4 (.map (some gm)) fi a7 := (ho.block g (lt_of_heap HR4.out) HXX.out.1).trans HR4.out
    have hx0W := (ho.block w.heap.size (lt_of_heap HX0.out) HKP.out.1).trans HX0.out
    obtain ⟨p0, -, pz⟩ := block1 hx0W
    have HAD := Lib.hid (Advance_any W Y g gm nb' 200000 fi a0 a1 a2 a3 a4 a7 M' S' E' T' bs' (ov f pos b) hat hYg hrW (fun i hi => ov_some (HFA.out i hi)) (fun k hk => by
      have := HBN.out
      rcases ov_any hk with h | h
      · omega
      · have := HFN.out k h; omega) (by omega) (Lib.hid (HT4.out.only ho HG1.out.2)) HG1.out.1)
    have HO := Lib.hid ho
    have HAT := Lib.hid hat
    have HY := Lib.hid hY
    have HYG := Lib.hid hYg
    have HK := Lib.hid hK
    have HNB : Hid (nb' ≤ nb + b.length) := Lib.hid (by have := dns_le pos n; have := HN.out; omega)
    clear ho hat hY hYg hrW hx0W hK hnb'
    gi_wp2_with (refine ⟨trivial, ?_⟩; gi_at_call 39; refine (callsIn_wide.2 HAD.out).mono ?_; rintro e w2 ⟨rfl, ho2, hp2⟩; have HO2 := Lib.hid ho2; have HP2 := Lib.hid hp2; clear ho2 hp2)
    have hK2 : w2.heap[D]? = some (.deferred (some [])) := (HO2.out.block D (lt_of_heap HK.out) (by have := HZ.out; omega)).trans HK.out
    have hfin : Only (fun j => j = g ∨ j = D) W (w2.putObj D (.deferred none)) := (HO2.out.mono fun q hq => .inl hq).thn (fun q hq => .inl hq) ((only_row7 (grownBy_putObj' w2 D (.deferred none))).mono fun q hq => .inr (Option.some.inj hq).symm)
    have hall : Only (fun j => X j ∨ j = g) w (w2.putObj D (.deferred none)) := (HB4.out.thn (X := fun j => X j ∨ j = g) (fun j hj => by
      rcases HXS.out j hj with h | h
      · exact .inl (.inl h)
      · exact .inr h) HO.out).thn (fun j hj => by
      rcases hj with hj | hj
      · exact .inl (.inr hj)
      · right; have := HZ.out; omega) hfin
    have hat2 := HAT.out.same (Nat.le_refl _) (fun _ h => h) (fun j hj hlt => HO2.out.block j hlt fun e => HYG.out (e ▸ hj))
    have hat3 := hat2.beside (B := W4.heap.size) (by have := HXX.out.2 gm hgm0; have := HZ.out; omega) (grownBy_putObj' w2 D (.deferred none)) (fun r e => by cases e; exact ⟨hD, _, hK2, rfl⟩)
    refine ⟨by simp, .inl ⟨_, _, rfl, run_takeDeferred hK2, ?_⟩⟩
    refine ⟨.tuple #[], by simp [results, Tryd.f33, go_sem], rfl, hall, Y, gm, nb', ?_⟩
    obtain ⟨fj, h1, h2, h3⟩ := HP2.out
    refine ⟨fj, ⟨M', S', E', T', bs', hat3⟩, HNB.out, fun j hj => ?_, HYG.out, ?_, h2, h3⟩
    · rcases HY.out j hj with h | h
      · rcases HXS.out j h with h2 | h2
        · exact .inl h2
        · refine .inr ⟨h2, ?_⟩
          have := HXX.out.2 j h
          have := HO.out.size
          have := HZ.out
          have := HO2.out.size
          have := (only_row7 (grownBy_putObj' w2 D (.deferred none))).size
          omega
      · refine .inr ⟨by have := HZ.out; omega, ?_⟩
        have := HO2.out.size
        have := (only_row7 (grownBy_putObj' w2 D (.deferred none))).size
        omega
    · exact (World.putObj_heap_other (by have := HZ.out; omega)).trans h1
end Go.Proofs.YtdngfbljcmbniaaDoor.M

/- Part: ChF. -/
namespace Go.Proofs.YtdngfbljcmbniaaDoor.M
open Go.RowKit Go.Maps

theorem run_make_bytes (n : Nat) (hn : n ≤ 1000000) (W : World) :
    (Instr.makeSlice 24 (.int .i64 (n : Int)) (.int .i64 (n : Int))).run Tryd.prog W = .ok (.slice (some ⟨W.heap.size, 0, none⟩) n n) (W.alloc (.cells ((List.replicate n (0 : UInt8)).map byteV).toArray 5)) := by
  obtain ⟨ib, hib, hib0, hib1, hib2⟩ := info_parts infoByte
  have hz : madeCells #[Value.int .u8 0] n = ((List.replicate n (0 : UInt8)).map byteV).toArray := by
    apply Array.toList_inj.1
    rw [toList_madeCells_one]
    simp [byteV]
  rw [← hz]
  exact run_make_row 24 5 ib (.int .u8 0) Tryd.underlying24 hib hib0 hib1 rfl .i64 .i64 n (by rw [hib2]; omega) (by omega) W

/-- What is laid out when some blocks are. -/
def frK (B : List UInt8) (k : Nat) : List UInt8 := B.take (64 * k) ++ List.replicate (B.length - 64 * k) 0

theorem frK_zero (B : List UInt8) : frK B 0 = List.replicate B.length 0 := by simp [frK]

theorem frK_end {B : List UInt8} {k : Nat} (h : B.length ≤ 64 * k) : frK B k = B := by
  unfold frK
  rw [List.take_of_length_le h, show B.length - 64 * k = 0 by omega]
  simp

theorem frK_length (B : List UInt8) (k : Nat) : (frK B k).length = B.length := by unfold frK; simp; omega

theorem frK_succ {B : List UInt8} {k : Nat} (h : 64 * k < B.length) : (frK B k).take (64 * k) ++ ((B.drop (64 * k)).take 64 ++ (frK B k).drop (64 * k + ((B.drop (64 * k)).take 64).length)) = frK B (k + 1) := by
  refine List.ext_getElem? fun i => ?_
  unfold frK
  have e1 : (B.take (64 * k)).length = 64 * k := by simp; omega
  have e2 : ((B.drop (64 * k)).take 64).length = min 64 (B.length - 64 * k) := by simp
  have e3 : (B.take (64 * (k + 1))).length = min (64 * (k + 1)) B.length := by simp
  rw [List.take_append_of_le_length (by omega), List.take_of_length_le (by omega)]
  by_cases h1 : i < 64 * k
  · rw [List.getElem?_append_left (by omega), List.getElem?_append_left (by omega), List.getElem?_take_of_lt (by omega), List.getElem?_take_of_lt (by omega)]
  · rw [List.getElem?_append_right (by omega), e1]
    by_cases h2 : i < 64 * k + min 64 (B.length - 64 * k)
    · rw [List.getElem?_append_left (by omega), List.getElem?_append_left (by omega), List.getElem?_take_of_lt (by omega), List.getElem?_drop, List.getElem?_take_of_lt (by omega)]
      congr 1
      omega
    · rw [List.getElem?_append_right (by omega), e2, List.getElem?_drop, List.getElem?_append_right (by omega), e1, List.getElem?_append_right (by omega), e3, List.getElem?_replicate, List.getElem?_replicate]
      split <;> split <;> first | rfl | omega

theorem bytesOf_length (f : Nat → Option UInt8) (n : Nat) : (bytesOf f n).length = n := by simp [bytesOf]

theorem bytesOf_get {f : Nat → Option UInt8} {n i : Nat} {c : UInt8} (h : i < n) (hc : f i = some c) : (bytesOf f n)[i]? = some c := by
  unfold bytesOf
  rw [List.getElem?_map, List.getElem?_range h]
  simp [hc]

theorem RepB.in_row {w : World} {L : List UInt8} {t : TypeId} {g : Nat} (hg : w.heap[g]? = some (.cells (L.map byteV).toArray t)) (hl : L.length ≤ 9223372036854775807) : RepB w (fun b => b = g) L (.slice (some ⟨g, 0, none⟩) L.length L.length) :=
  .inr ⟨g, 0, L.length, rfl, rfl, Nat.le_refl _, hl, fun i hi => by
    rw [cell_of_row _ g (0 + i) _ t _ hg]
    simp [hi, byteV]⟩

/-- What front answers. -/
def FrPost (w : World) (B : List UInt8) (e : Ending) (w' : World) : Prop := ∃ v, e = .returned v ∧ Below w.heap.size w w' ∧ RepB w' (fun k => w.heap.size ≤ k ∧ k < w'.heap.size) B v

set_option maxRecDepth 20000 in
set_option maxHeartbeats 4000000 in
theorem Front_any (w : World) (X : Nat → Prop) (g gm nb fi : Nat) (a0 a1 a2 a3 a4 a7 : Value) (M : DataW Nat) (S : Nat → Bool) (E T : Nat → Nat) (bs : Nat → List UInt8) (f : Nat → Option UInt8) (h : HeldAt w X gm nb M S E T bs f) (hr : HpRow w g a0 a1 a2 a3 a4 (.map (some gm)) fi a7)
    (hf : ∀ i, i < fi → (f i).isSome = true) (hfi : fi ≤ 100000) :
    Calls Tryd.prog 26 #[.pointer (some ⟨g, 5, none⟩)] w (FrPost w (bytesOf f fi)) := by
  obtain ⟨B, hB⟩ : ∃ B, B = bytesOf f fi := ⟨_, rfl⟩
  have hBl : B.length = fi := by rw [hB, bytesOf_length]
  rw [← hB]
  have H := Lib.hid h
  have HR := Lib.hid hr
  have HF := Lib.hid hf
  have HB := Lib.hid hB
  have HBL := Lib.hid hBl
  obtain ⟨⟨-, -, -, -, -, -, c6, -⟩, -, hz⟩ := hr.cells
  have hmk := run_make_bytes fi (by omega)
  obtain ⟨W1, hW1⟩ : ∃ W1, W1 = w.alloc (.cells ((List.replicate fi (0 : UInt8)).map byteV).toArray 5) := ⟨_, rfl⟩
  have hmk1 : (Instr.makeSlice 24 (.int .i64 (fi : Int)) (.int .i64 (fi : Int))).run Tryd.prog w = .ok (.slice (some ⟨w.heap.size, 0, none⟩) fi fi) W1 := by rw [hmk, hW1]
  have HS1 : Hid (Below w.heap.size w W1 ∧ W1.heap[w.heap.size]? = some (.cells ((frK B 0).map byteV).toArray 5)) := Lib.hid ⟨by rw [hW1]; exact below_alloc _ _, by rw [hW1, frK_zero, hBl]; exact heap_new _ _ _ rfl⟩
  clear h hr hf hB hBl hmk hW1
  go_enter Tryd.func26, Tryd.ntmps26
  go_wp2_with fail
  go_loopw [4] (fun i wr => ∃ k t : Nat, t = 64 * k ∧ i = .int .i64 (t : Int) ∧ t ≤ fi + 63 ∧ Hid (Below w.heap.size w wr ∧ wr.heap[w.heap.size]? = some (.cells ((frK B k).map byteV).toArray 5))) (fun i _ => fi + 64 - (intOf i).toNat)
  case atStart => exact ⟨0, 0, rfl, rfl, by omega, HS1⟩
  case round =>
    obtain ⟨k, t, ht, rfl, hk, hs⟩ := hrel
    obtain ⟨hb, hrow⟩ := hs.out
    by_cases hlt : t < fi
    · have q1 : decide ((t : Int) < (fi : Int)) = true := decide_eq_true (by omega)
      have e1 : (t : Int) / 64 = (k : Int) := by omega
      have hat := H.out.next hb
      have hrW : HpRow wr g a0 a1 a2 a3 a4 (.map (some gm)) fi a7 := old_below HR.out hb
      obtain ⟨⟨-, -, -, -, -, c5, -, -⟩, -, hgz⟩ := hrW.cells
      have hS : S k = true := by
        rw [← Bool.not_eq_false]
        intro hS
        have h1 := HF.out t hlt
        have h2 := hat.none k hS 0 (by omega)
        rw [show 64 * k + 0 = t by omega] at h2
        rw [h2] at h1
        cases h1
      have HLK : ∀ n, (Instr.lookup 60 (.map (some gm)) (.int .i64 (k : Int)) false).run Tryd.prog (wr.drewN n) = .ok (.pointer (some ⟨E k, 0, none⟩)) (wr.drewN n) := fun n => by
        have := hat.look (q := k) (by omega) (w' := wr.drewN n) rfl
        unfold ptrAt at this
        rw [hS] at this
        exact this
      have HLK1 : (Instr.lookup 60 (.map (some gm)) (.int .i64 (k : Int)) false).run Tryd.prog wr.drew = .ok (.pointer (some ⟨E k, 0, none⟩)) wr.drew := by
        have := hat.look (q := k) (by omega) (w' := wr.drew) rfl
        unfold ptrAt at this
        rw [hS] at this
        exact this
      obtain ⟨hblk, hag⟩ := hat.each k hS
      have hcp : ∃ W2, (∀ ty, (Builtin.copy_ #[24, 24] ty #[.slice (some ⟨w.heap.size, t, none⟩) (fi - t) (fi - t), .slice (some ⟨E k, 1, none⟩) 64 64]).run Tryd.prog wr.drew = .ok (.int .i64 ((min 64 (fi - t) : Nat) : Int)) W2) ∧ Below w.heap.size w W2 ∧ W2.heap[w.heap.size]? = some (.cells ((frK B (k + 1)).map byteV).toArray 5) := by
        obtain ⟨cs, hcs⟩ : ∃ cs, cs = (B.drop t).take 64 := ⟨_, rfl⟩
        have hcl : cs.length = min 64 (fi - t) := by have := HBL.out; rw [hcs]; simp; omega
        have hrw : wr.drew.heap[w.heap.size]? = some (.cells ((frK B k).map byteV).toArray 5) := hrow
        have hbd : BlkAt wr.drew (E k) (T k) (bs k) := hblk
        refine ⟨wr.drew.setRow w.heap.size ((frK B (k + 1)).map byteV).toArray, fun ty => ?_, ?_, setRow_heap _ _ _ _ _ _ hrw⟩
        · have h1 := run_copy_row (P := Tryd.prog) wr.drew 24 24 ty 5 w.heap.size t (fi - t) (fi - t) ⟨E k, 1, none⟩ 64 64 _ 5 (cs.map byteV) Tryd.underlying24 sizeByte hrw
            (by rw [List.length_map, hcl]) (fun j v hj => by
              rw [List.getElem?_map] at hj
              cases hx : cs[j]? with
              | none => rw [hx] at hj; cases hj
              | some c =>
                rw [hx] at hj
                simp only [Option.map_some, Option.some.injEq] at hj
                have hj2 : j < cs.length := by
                  rcases Nat.lt_or_ge j cs.length with h | h
                  · exact h
                  · rw [List.getElem?_eq_none h] at hx; cases hx
                have hjl : t + j < fi := by omega
                have hfs := HF.out (t + j) hjl
                cases hfx : f (t + j) with
                | none => rw [hfx] at hfs; cases hfs
                | some d =>
                  have h3 := bytesOf_get hjl hfx
                  rw [← HB.out] at h3
                  rw [hcs, List.getElem?_take_of_lt (by omega), List.getElem?_drop, h3] at hx
                  have h4 := (hag.2.2 j (by omega)).2 d (by rw [← ht]; exact hfx)
                  have h5 := hbd.byte (i := j) (by rw [hag.2.1]; omega)
                  rw [addr_add, h5, ← hj]
                  rw [List.getElem?_eq_getElem (by rw [hag.2.1]; omega)] at h4
                  have h6 : d = c := by simpa using hx
                  rw [← h6, ← Option.some.inj h4]
                  rfl) (by simp only [List.length_map, List.size_toArray, frK_length, HBL.out, hcl]; omega) (fun u hu => by obtain ⟨y, -, rfl⟩ := List.mem_map.1 hu; rfl)
          rw [h1]
          have e9 : goInt (cs.map byteV).length = .int .i64 ((min 64 (fi - t) : Nat) : Int) := by rw [List.length_map, hcl]; rfl
          rw [e9]
          congr 2
          have h7 := congrArg (List.map byteV) (frK_succ (B := B) (k := k) (by have := HBL.out; omega))
          rw [← ht, ← hcs] at h7
          rw [← h7]
          simp
        · exact (hb.drew).trans ⟨rfl, rfl, rfl, by simp [World.setRow], fun k hk => setRow_other wr.drew w.heap.size k _ (by omega)⟩
      obtain ⟨W2, hcp, hb2, hr2⟩ := hcp
      have HS2 : Hid (Below w.heap.size w W2 ∧ W2.heap[w.heap.size]? = some (.cells ((frK B (k + 1)).map byteV).toArray 5)) := Lib.hid ⟨hb2, hr2⟩
      have hnf : ¬ fi = t := by omega
      have q2 : (t : Int) ≤ (fi : Int) := by omega
      obtain ⟨b0, b0f, b0z⟩ := hblk.bits
      have HTK := Lib.hid ht
      have hkb : k ≤ 100000 := by omega
      have hkw : IntKind.i64.wrap (k : Int) = (k : Int) := IntWalk.i64_in _ (by omega)
      clear ht hb hrow hat hrW hS hblk hag hb2 hr2 hs HLK
      go_wp2_with fail
      go_still_tail 13, (by kernel_rfl)
      clear hkw
      go_wp2_with fail
      go_roundw
      case rel => exact ⟨k + 1, t + 64, by have := HTK.out; omega, by go_num, by omega, HS2⟩
      case measure => simp [intOf]; omega
    · have q1 : decide ((t : Int) < (fi : Int)) = false := decide_eq_false (by omega)
      have HFI : Hid (Below w.heap.size w wr ∧ wr.heap[w.heap.size]? = some (.cells (B.map byteV).toArray 5)) := Lib.hid (by rw [frK_end (by have := HBL.out; omega)] at hrow; exact ⟨hb, hrow⟩)
      clear hb hrow hs ht
      go_wp2_with fail
      go_ret
      refine ⟨_, rfl, HFI.out.1, ?_⟩
      rw [← HBL.out]
      exact (RepB.in_row HFI.out.2 (by have := HBL.out; omega)).weak fun j hj => by
        rw [hj]
        exact ⟨Nat.le_refl _, lt_of_heap HFI.out.2⟩
end Go.Proofs.YtdngfbljcmbniaaDoor.M

/- Part: ChG. -/
namespace Go.Proofs.YtdngfbljcmbniaaDoor.M
open Go.RowKit Go.Maps

def mkAgg (i t : Int) : Value := .agg #[.int .i64 i, .int .i64 t]
def pcAgg (p : Pc) (v : Value) : Value := .agg #[.int .i64 p.idx, .int .i64 p.term, .int .u32 p.sum, .int .i64 p.tot, .int .i64 p.pos, v]
def pcV (p : Pc) (v : Value) : List Value := [.int .i64 p.idx, .int .i64 p.term, .int .u32 p.sum, .int .i64 p.tot, .int .i64 p.pos, v]
def goalAgg (p : Pc) : Value := .agg #[.int .i64 p.idx, .int .i64 p.term, .int .u32 p.sum, .int .i64 p.tot]

set_option maxRecDepth 20000 in
set_option maxHeartbeats 1000000 in
theorem IsMark_any (i t : Int) (w : World) : Calls Tryd.prog 18 #[mkAgg i t] w fun e w' => e = .returned (.bool (okMark i t)) ∧ Below w.heap.size w w' := by
  unfold mkAgg
  obtain ⟨ok, hok⟩ : ∃ ok, ok = okMark i t := ⟨_, rfl⟩
  rw [← hok]
  by_cases h1 : 1 ≤ i
  · by_cases h2 : i < 10000000000
    · by_cases h3 : 1 ≤ t
      · by_cases h4 : t < 10000000000
        · have HOK : Hid (ok = true) := Lib.hid (by rw [hok]; unfold okMark; exact decide_eq_true ⟨h1, h2, h3, h4⟩)
          clear hok
          go_enter Tryd.func18, Tryd.ntmps18
          go_wp2_with fail
          go_ret
          exact ⟨by rw [HOK.out]; rfl, below_alloc _ _⟩
        · have q : decide (t < 10000000000) = false := decide_eq_false h4
          have HOK : Hid (ok = false) := Lib.hid (by rw [hok]; unfold okMark; exact decide_eq_false (by omega))
          clear hok
          go_enter Tryd.func18, Tryd.ntmps18
          go_wp2_with fail
          go_ret
          exact ⟨by rw [HOK.out]; rfl, below_alloc _ _⟩
      · have q : decide (1 ≤ t) = false := decide_eq_false h3
        have HOK : Hid (ok = false) := Lib.hid (by rw [hok]; unfold okMark; exact decide_eq_false (by omega))
        clear hok
        go_enter Tryd.func18, Tryd.ntmps18
        go_wp2_with fail
        go_ret
        exact ⟨by rw [HOK.out]; rfl, below_alloc _ _⟩
    · have q : decide (i < 10000000000) = false := decide_eq_false h2
      have HOK : Hid (ok = false) := Lib.hid (by rw [hok]; unfold okMark; exact decide_eq_false (by omega))
      clear hok
      go_enter Tryd.func18, Tryd.ntmps18
      go_wp2_with fail
      go_ret
      exact ⟨by rw [HOK.out]; rfl, below_alloc _ _⟩
  · have q : decide (1 ≤ i) = false := decide_eq_false h1
    have HOK : Hid (ok = false) := Lib.hid (by rw [hok]; unfold okMark; exact decide_eq_false (by omega))
    clear hok
    go_enter Tryd.func18, Tryd.ntmps18
    go_wp2_with fail
    go_ret
    exact ⟨by rw [HOK.out]; rfl, below_alloc _ _⟩

set_option maxRecDepth 20000 in
set_option maxHeartbeats 1000000 in
theorem GoalOf_any (p : Pc) (a : Option Addr) (n c : Nat) (w : World) : Calls Tryd.prog 31 #[pcAgg p (.slice a n c)] w fun e w' => e = .returned (goalAgg p) ∧ Below w.heap.size w w' := by
  obtain ⟨i, t, s, o, q, b⟩ := p
  unfold pcAgg goalAgg
  simp only
  go_enter Tryd.func31, Tryd.ntmps31
  go_wp2_with fail
  exact bodyPost_ret (v := .agg #[.int .i64 i, .int .i64 t, .int .u32 s, .int .i64 o]) (by simp [results, Tryd.results31, go_sem]) rfl ⟨rfl, ((Below.refl _ _).alloc (Nat.le_refl _) _).alloc (by simp) _⟩

theorem tot_eq (n : Nat) : ((n : Int) == 0) = decide (n = 0) := by
  rw [Bool.eq_iff_iff]; simp

theorem six_cells {w : World} {g : Nat} {x0 x1 x2 x3 x4 x5 : Value} {t : TypeId} (h : w.heap[g]? = some (.cells #[x0, x1, x2, x3, x4, x5] t)) :
    w.cell? ⟨g, 0, none⟩ = some x0 ∧ w.cell? ⟨g, 1, none⟩ = some x1 ∧ w.cell? ⟨g, 2, none⟩ = some x2 ∧ w.cell? ⟨g, 3, none⟩ = some x3 ∧ w.cell? ⟨g, 4, none⟩ = some x4 ∧ w.cell? ⟨g, 5, none⟩ = some x5 ∧ g < w.heap.size :=
  ⟨cell_of_row _ _ 0 _ _ _ h, cell_of_row _ _ 1 _ _ _ h, cell_of_row _ _ 2 _ _ _ h, cell_of_row _ _ 3 _ _ _ h, cell_of_row _ _ 4 _ _ _ h, cell_of_row _ _ 5 _ _ _ h, lt_of_heap h⟩

set_option maxRecDepth 20000 in
set_option maxHeartbeats 4000000 in
theorem IsRight_any (p : Pc) (most : Int) (a : Option Addr) (c : Nat) (w : World) (hb : p.b.length ≤ 1000000) (ht : p.tot ≤ 1000000) : Calls Tryd.prog 30 #[pcAgg p (.slice a p.b.length c), .int .i64 most] w fun e w' => e = .returned (.bool (okPc most p)) ∧ Below w.heap.size w w' := by
  obtain ⟨i, t, s, o, q, b⟩ := p
  unfold pcAgg
  simp only at hb ht ⊢
  obtain ⟨n, hn⟩ : ∃ n, n = b.length := ⟨_, rfl⟩
  rw [← hn] at hb ⊢
  obtain ⟨ok, hok⟩ : ∃ ok, ok = okPc most ⟨i, t, s, o, q, b⟩ := ⟨_, rfl⟩
  rw [← hok]
  unfold okPc at hok
  simp only at hok
  rw [← hn] at hok
  obtain ⟨om, hom⟩ : ∃ om, om = okMark i t := ⟨_, rfl⟩
  rw [← hom] at hok
  have HIM := Lib.hid fun w1 => IsMark_any i t w1
  rw [← hom] at HIM
  unfold mkAgg at HIM
  have HN := Lib.hid hn
  clear hn hom
  cases om with
  | false =>
    have HOK : Hid (ok = false) := Lib.hid (by rw [hok]; rfl)
    clear hok
    go_enter Tryd.func30, Tryd.ntmps30
    go_wp2_with (go_at_call 18; refine (HIM.out _).mono ?_; rintro e w1 ⟨rfl, hb1⟩; have HB1 := Lib.hid hb1; clear hb1)
    go_ret
    exact ⟨by rw [HOK.out]; rfl, (below_alloc w _).trans (HB1.out.mono (by simp))⟩
  | true =>
    rw [Bool.true_and] at hok
    by_cases h1 : o < 0
    · have HOK : Hid (ok = false) := Lib.hid (by rw [hok]; exact decide_eq_false (by omega))
      clear hok
      go_enter Tryd.func30, Tryd.ntmps30
      go_wp2_with (go_at_call 18; refine (HIM.out _).mono ?_; rintro e w1 ⟨rfl, hb1⟩; have HB1 := Lib.hid hb1; obtain ⟨d0, d1, d2, d3, d4, d5, dz⟩ := six_cells (old_below (heap_new w _ _ rfl) hb1); clear hb1 d0 d1)
      go_ret
      exact ⟨by rw [HOK.out]; rfl, (below_alloc w _).trans (HB1.out.mono (by simp))⟩
    · have q1 : decide (o < 0) = false := decide_eq_false h1
      by_cases h2 : most < o
      · have q2 : decide (most < o) = true := decide_eq_true h2
        have HOK : Hid (ok = false) := Lib.hid (by rw [hok]; exact decide_eq_false (by omega))
        clear hok
        go_enter Tryd.func30, Tryd.ntmps30
        go_wp2_with (go_at_call 18; refine (HIM.out _).mono ?_; rintro e w1 ⟨rfl, hb1⟩; have HB1 := Lib.hid hb1; obtain ⟨d0, d1, d2, d3, d4, d5, dz⟩ := six_cells (old_below (heap_new w _ _ rfl) hb1); clear hb1 d0 d1)
        go_ret
        exact ⟨by rw [HOK.out]; rfl, (below_alloc w _).trans (HB1.out.mono (by simp))⟩
      · have q2 : decide (most < o) = false := decide_eq_false h2
        by_cases h3 : n = 0
        · by_cases h4 : o = 0
          · subst h3
            subst h4
            by_cases h5 : 0 ≤ q
            · by_cases h6 : q ≤ 0
              · obtain rfl : q = 0 := by omega
                have HOK : Hid (ok = true) := Lib.hid (by rw [hok]; exact decide_eq_true ⟨by omega, by omega, by simp, by omega, by simp⟩)
                clear hok
                go_enter Tryd.func30, Tryd.ntmps30
                go_wp2_with (go_at_call 18; refine (HIM.out _).mono ?_; rintro e w1 ⟨rfl, hb1⟩; have HB1 := Lib.hid hb1; obtain ⟨d0, d1, d2, d3, d4, d5, dz⟩ := six_cells (old_below (heap_new w _ _ rfl) hb1); clear hb1 d0 d1)
                go_ret
                exact ⟨by rw [HOK.out]; rfl, (below_alloc w _).trans (HB1.out.mono (by simp))⟩
              · have q6 : decide (q ≤ 0) = false := decide_eq_false h6
                have HOK : Hid (ok = false) := Lib.hid (by rw [hok]; exact decide_eq_false (by simp; omega))
                clear hok
                go_enter Tryd.func30, Tryd.ntmps30
                go_wp2_with (go_at_call 18; refine (HIM.out _).mono ?_; rintro e w1 ⟨rfl, hb1⟩; have HB1 := Lib.hid hb1; obtain ⟨d0, d1, d2, d3, d4, d5, dz⟩ := six_cells (old_below (heap_new w _ _ rfl) hb1); clear hb1 d0 d1)
                go_ret
                exact ⟨by rw [HOK.out]; rfl, (below_alloc w _).trans (HB1.out.mono (by simp))⟩
            · have q5 : decide (0 ≤ q) = false := decide_eq_false h5
              have HOK : Hid (ok = false) := Lib.hid (by rw [hok]; exact decide_eq_false (by omega))
              clear hok
              go_enter Tryd.func30, Tryd.ntmps30
              go_wp2_with (go_at_call 18; refine (HIM.out _).mono ?_; rintro e w1 ⟨rfl, hb1⟩; have HB1 := Lib.hid hb1; obtain ⟨d0, d1, d2, d3, d4, d5, dz⟩ := six_cells (old_below (heap_new w _ _ rfl) hb1); clear hb1 d0 d1)
              go_ret
              exact ⟨by rw [HOK.out]; rfl, (below_alloc w _).trans (HB1.out.mono (by simp))⟩
          · subst h3
            have q4 : (o == 0) = false := by simpa using h4
            have HOK : Hid (ok = false) := Lib.hid (by rw [hok]; exact decide_eq_false (by simp; omega))
            clear hok h4
            go_enter Tryd.func30, Tryd.ntmps30
            go_wp2_with (go_at_call 18; refine (HIM.out _).mono ?_; rintro e w1 ⟨rfl, hb1⟩; have HB1 := Lib.hid hb1; obtain ⟨d0, d1, d2, d3, d4, d5, dz⟩ := six_cells (old_below (heap_new w _ _ rfl) hb1); clear hb1 d0 d1)
            go_ret
            exact ⟨by rw [HOK.out]; rfl, (below_alloc w _).trans (HB1.out.mono (by simp))⟩
        · have q3 : ((n : Int) == 0) = false := by rw [tot_eq]; exact decide_eq_false h3
          by_cases h4 : o = 0
          · subst h4
            have HOK : Hid (ok = false) := Lib.hid (by rw [hok]; exact decide_eq_false (by simp; omega))
            clear hok h3
            go_enter Tryd.func30, Tryd.ntmps30
            go_wp2_with (go_at_call 18; refine (HIM.out _).mono ?_; rintro e w1 ⟨rfl, hb1⟩; have HB1 := Lib.hid hb1; obtain ⟨d0, d1, d2, d3, d4, d5, dz⟩ := six_cells (old_below (heap_new w _ _ rfl) hb1); clear hb1 d0 d1)
            go_ret
            exact ⟨by rw [HOK.out]; rfl, (below_alloc w _).trans (HB1.out.mono (by simp))⟩
          · have q4 : (o == 0) = false := by simpa using h4
            by_cases h5 : 0 ≤ q
            · by_cases h6 : q ≤ o - (n : Int)
              · have HOK : Hid (ok = true) := Lib.hid (by rw [hok]; exact decide_eq_true ⟨by omega, by omega, by constructor <;> omega, by omega, by omega⟩)
                clear hok h3 h4
                go_enter Tryd.func30, Tryd.ntmps30
                go_wp2_with (go_at_call 18; refine (HIM.out _).mono ?_; rintro e w1 ⟨rfl, hb1⟩; have HB1 := Lib.hid hb1; obtain ⟨d0, d1, d2, d3, d4, d5, dz⟩ := six_cells (old_below (heap_new w _ _ rfl) hb1); clear hb1 d0 d1)
                go_ret
                exact ⟨by rw [HOK.out]; rfl, (below_alloc w _).trans (HB1.out.mono (by simp))⟩
              · have q6 : decide (q ≤ o - (n : Int)) = false := decide_eq_false h6
                have HOK : Hid (ok = false) := Lib.hid (by rw [hok]; exact decide_eq_false (by omega))
                clear hok h3 h4
                go_enter Tryd.func30, Tryd.ntmps30
                go_wp2_with (go_at_call 18; refine (HIM.out _).mono ?_; rintro e w1 ⟨rfl, hb1⟩; have HB1 := Lib.hid hb1; obtain ⟨d0, d1, d2, d3, d4, d5, dz⟩ := six_cells (old_below (heap_new w _ _ rfl) hb1); clear hb1 d0 d1)
                go_ret
                exact ⟨by rw [HOK.out]; rfl, (below_alloc w _).trans (HB1.out.mono (by simp))⟩
            · have q5 : decide (0 ≤ q) = false := decide_eq_false h5
              have HOK : Hid (ok = false) := Lib.hid (by rw [hok]; exact decide_eq_false (by omega))
              clear hok h3 h4
              go_enter Tryd.func30, Tryd.ntmps30
              go_wp2_with (go_at_call 18; refine (HIM.out _).mono ?_; rintro e w1 ⟨rfl, hb1⟩; have HB1 := Lib.hid hb1; obtain ⟨d0, d1, d2, d3, d4, d5, dz⟩ := six_cells (old_below (heap_new w _ _ rfl) hb1); clear hb1 d0 d1)
              go_ret
              exact ⟨by rw [HOK.out]; rfl, (below_alloc w _).trans (HB1.out.mono (by simp))⟩
end Go.Proofs.YtdngfbljcmbniaaDoor.M

/- Part: ChH. -/
namespace Go.Proofs.YtdngfbljcmbniaaDoor.M
open Go.RowKit Go.Maps

/-- A heap in memory. -/
def HeapAt (w : World) (X : Nat → Prop) (g : Nat) (most : Int) : List Pc → Prop
  | [] => HpRow w g (.int .i64 most) (.int .i64 0) (.int .i64 0) (.int .u32 0) (.int .i64 0) (.map none) 0 (.bool false)
  | p :: L => ∃ gm nb, HpRow w g (.int .i64 most) (.int .i64 p.idx) (.int .i64 p.term) (.int .u32 p.sum) (.int .i64 p.tot) (.map (some gm)) (missing (p :: L)) (.bool (wholeB (p :: L))) ∧ Held w X gm nb (byteL (p :: L)) ∧ nb ≤ 1000 * (p :: L).length

/-- .. with all of its memory. -/
def HeapIn (w : World) (X : Nat → Prop) (g : Nat) (most : Int) (L : List Pc) : Prop := HeapAt w X g most L ∧ ¬ X g ∧ ∀ k, X k → k < w.heap.size

/-- What is gathered, as values. -/
def goalV : List Pc → Value
  | [] => .agg #[.int .i64 0, .int .i64 0, .int .u32 0, .int .i64 0]
  | p :: _ => goalAgg p
def hdIdx : List Pc → Int
  | [] => 0
  | p :: _ => p.idx
def hdTerm : List Pc → Int
  | [] => 0
  | p :: _ => p.term
def hdSum : List Pc → Int
  | [] => 0
  | p :: _ => p.sum
def hdTot : List Pc → Int
  | [] => 0
  | p :: _ => p.tot

/-- Its own row, whatever it has. -/
theorem HeapAt.row {w : World} {X : Nat → Prop} {g : Nat} {most : Int} {L : List Pc} (h : HeapAt w X g most L) : ∃ m, HpRow w g (.int .i64 most) (.int .i64 (hdIdx L)) (.int .i64 (hdTerm L)) (.int .u32 (hdSum L)) (.int .i64 (hdTot L)) m (missing L) (.bool (wholeB L)) := by
  cases L with
  | nil => exact ⟨_, h⟩
  | cons p L => obtain ⟨gm, nb, h1, -, -⟩ := h; exact ⟨_, h1⟩

theorem HeapAt.same {w w' : World} {X Y : Nat → Prop} {g : Nat} {most : Int} {L : List Pc} (h : HeapAt w X g most L) (hX : ∀ k, X k → Y k) (hg : w'.heap[g]? = w.heap[g]?) (hs : ∀ k, X k → k < w.heap.size → w'.heap[k]? = w.heap[k]?) : HeapAt w' Y g most L := by
  cases L with
  | nil => exact hg.trans h
  | cons p L =>
    obtain ⟨gm, nb, h1, h2, h3⟩ := h
    exact ⟨gm, nb, hg.trans h1, h2.same (Nat.le_refl _) hX hs, h3⟩

theorem HeapIn.lt {w : World} {X : Nat → Prop} {g : Nat} {most : Int} {L : List Pc} (h : HeapIn w X g most L) : g < w.heap.size := by
  obtain ⟨m, hr⟩ := h.1.row
  exact lt_of_heap hr

theorem HeapIn.next {w w' : World} {X : Nat → Prop} {g : Nat} {most : Int} {L : List Pc} (h : HeapIn w X g most L) (hb : Below w.heap.size w w') : HeapIn w' X g most L :=
  ⟨h.1.same (fun _ h => h) (hb.block g h.lt) fun k _ hk => hb.block k hk, h.2.1, fun k hk => Nat.lt_of_lt_of_le (h.2.2 k hk) hb.size⟩

set_option maxRecDepth 20000 in
set_option maxHeartbeats 1000000 in
theorem New_any (most : Int) (w : World) : Calls Tryd.prog 9 #[.int .i64 most] w fun e w' => ∃ g, e = .returned (.pointer (some ⟨g, 0, none⟩)) ∧ Below w.heap.size w w' ∧ w.heap.size ≤ g ∧ HeapIn w' (fun _ => False) g most [] := by
  go_enter Tryd.func9, Tryd.ntmps9
  go_wp2_with fail
  go_ret
  exact ⟨w.heap.size, rfl, below_alloc _ _, Nat.le_refl _, heap_new _ _ _ rfl, fun h => h, fun k hk => hk.elim⟩

theorem HpRow.heap8 {w : World} {g : Nat} {a0 a1 a2 a3 a4 m : Value} {fi : Nat} {a7 : Value} (h : HpRow w g a0 a1 a2 a3 a4 m fi a7) (b1 b2 b3 b4 b5 b6 b7 : Value) :
    ((((((((w.setCell ⟨g, 0, none⟩ a0).setCell ⟨g, 1, none⟩ b1).setCell ⟨g, 2, none⟩ b2).setCell ⟨g, 3, none⟩ b3).setCell ⟨g, 4, none⟩ b4).setCell ⟨g, 5, none⟩ b5).setCell ⟨g, 6, none⟩ b6).setCell ⟨g, 7, none⟩ b7).heap[g]? = some (.cells #[a0, b1, b2, b3, b4, b5, b6, b7] 64) := by
  unfold HpRow at h
  simp [World.setCell, Array.getElem?_modify, h]

set_option maxRecDepth 20000 in
set_option maxHeartbeats 1000000 in
theorem Drop_any (X : Nat → Prop) (g : Nat) (most : Int) (L : List Pc) (w : World) (h : HeapAt w X g most L) :
    Calls Tryd.prog 10 #[.pointer (some ⟨g, 0, none⟩)] w fun e w' => e = .returned (.tuple #[]) ∧ Only (fun k => k = g) w w' ∧ HeapAt w' (fun _ => False) g most [] := by
  obtain ⟨m, hr⟩ := h.row
  have HR := Lib.hid hr
  obtain ⟨⟨c0, c1, c2, c3, c4, c5, c6, c7⟩, hfz, hz⟩ := hr.cells
  have f0 := hfz 0
  have f1 := hfz 1
  have f2 := hfz 2
  have f3 := hfz 3
  have f4 := hfz 4
  have f5 := hfz 5
  have f6 := hfz 6
  have f7 := hfz 7
  clear hr h hfz
  go_enter Tryd.func10, Tryd.ntmps10
  go_wp2_with fail
  go_end0
  refine ⟨rfl, ?_, ?_⟩
  · exact ((((((((Only.refl (fun k => k = g) w).set (.inl rfl) _).set (.inl rfl) _).set (.inl rfl) _).set (.inl rfl) _).set (.inl rfl) _).set (.inl rfl) _).set (.inl rfl) _).set (.inl rfl) _
  · exact HR.out.heap8 _ _ _ _ _ _ _

set_option maxRecDepth 20000 in
set_option maxHeartbeats 1000000 in
theorem Mark_any (X : Nat → Prop) (g : Nat) (most : Int) (L : List Pc) (w : World) (h : HeapAt w X g most L) :
    Calls Tryd.prog 15 #[.pointer (some ⟨g, 0, none⟩)] w fun e w' => e = .returned (mkAgg (hdIdx L) (hdTerm L)) ∧ Below w.heap.size w w' := by
  obtain ⟨m, hr⟩ := h.row
  obtain ⟨⟨c0, c1, c2, c3, c4, c5, c6, c7⟩, hfz, hz⟩ := hr.cells
  clear hr h hfz
  go_enter Tryd.func15, Tryd.ntmps15
  go_wp2_with fail
  exact bodyPost_ret (v := mkAgg (hdIdx L) (hdTerm L)) (by simp [results, Tryd.results15, go_sem, mkAgg]) rfl ⟨rfl, below_alloc _ _⟩

set_option maxRecDepth 20000 in
set_option maxHeartbeats 1000000 in
theorem Missing_any (X : Nat → Prop) (g : Nat) (most : Int) (L : List Pc) (w : World) (h : HeapAt w X g most L) :
    Calls Tryd.prog 16 #[.pointer (some ⟨g, 0, none⟩)] w fun e w' => e = .returned (.int .i64 (missing L : Int)) ∧ w = w' := by
  obtain ⟨m, hr⟩ := h.row
  obtain ⟨⟨c0, c1, c2, c3, c4, c5, c6, c7⟩, hfz, hz⟩ := hr.cells
  clear hr h hfz
  go_enter Tryd.func16, Tryd.ntmps16
  go_wp2_with fail
  go_ret
  exact ⟨rfl, rfl⟩
end Go.Proofs.YtdngfbljcmbniaaDoor.M

/- Part: ChI. -/
namespace Go.Proofs.YtdngfbljcmbniaaDoor.M
open Go.RowKit Go.Maps

/-- What is there, if it is whole. -/
def wholeL (L : List Pc) : List UInt8 := if wholeB L then bytesOf (byteL L) (totN L) else []

/-- What Whole answers. -/
def WhPost (w : World) (L : List Pc) (e : Ending) (w' : World) : Prop := ∃ a c, e = .returned (.tuple #[.slice a (wholeL L).length c, .bool (wholeB L)]) ∧ Below w.heap.size w w' ∧ RepB w' (fun k => w.heap.size ≤ k ∧ k < w'.heap.size) (wholeL L) (.slice a (wholeL L).length c)

theorem whole_missing {L : List Pc} (h : wholeB L = true) : missing L = totN L := by
  unfold wholeB at h
  rw [Bool.and_eq_true] at h
  simpa using h.2

set_option maxRecDepth 20000 in
set_option maxHeartbeats 1000000 in
theorem Whole_any (X : Nat → Prop) (g : Nat) (most : Int) (L : List Pc) (w : World) (h : HeapAt w X g most L) (ht : totN L ≤ 100000) :
    Calls Tryd.prog 14 #[.pointer (some ⟨g, 0, none⟩)] w (WhPost w L) := by
  obtain ⟨m, hr⟩ := h.row
  obtain ⟨⟨-, -, -, -, -, -, -, c7⟩, hfz, hz⟩ := hr.cells
  cases hw : wholeB L with
  | false =>
    rw [hw] at c7
    have HW := Lib.hid hw
    clear hr h hfz hw
    go_enter Tryd.func14, Tryd.ntmps14
    go_wp2_with fail
    go_ret2
    have e1 : wholeL L = [] := by unfold wholeL; rw [HW.out]; rfl
    exact ⟨none, 0, by rw [e1, HW.out]; rfl, Below.refl _ _, by rw [e1]; exact .inl ⟨rfl, Bare.nil⟩⟩
  | true =>
    rw [hw] at c7
    cases L with
    | nil => cases hw
    | cons p L =>
      obtain ⟨gm, nb, hr2, ⟨M, S, E, T, bs, hat⟩, -⟩ := h
      have hm := whole_missing hw
      have HF := Lib.hid (Front_any w X g gm nb (missing (p :: L)) _ _ _ _ _ _ M S E T bs _ hat hr2 (missing_spec (p :: L)).2.1 (by omega))
      have e1 : wholeL (p :: L) = bytesOf (byteL (p :: L)) (missing (p :: L)) := by unfold wholeL; rw [hw, hm]; rfl
      rw [← e1] at HF
      have HW := Lib.hid hw
      clear hr hr2 hat hfz hw hm e1
      go_enter Tryd.func14, Tryd.ntmps14
      go_wp2_with (go_at_call 26; refine (HF.out).mono ?_; rintro e w1 ⟨v, rfl, hb1, hv1⟩; obtain ⟨va, vc, rfl, -⟩ := hv1.slice; have HB1 := Lib.hid hb1; have HV1 := Lib.hid hv1; clear hb1 hv1)
      go_ret2
      exact ⟨va, vc, by rw [HW.out]; rfl, HB1.out, HV1.out⟩

/-- What check leaves. -/
def CkPost (w : World) (g : Nat) (most idx term : Int) (sm tot fj gm : Nat) (all : Bool) (B : List UInt8) (e : Ending) (w' : World) : Prop :=
  Only (fun k => k = g) w w' ∧
  if all = true ∨ fj < tot then e = .returned (.int .i64 0) ∧ HpRow w' g (.int .i64 most) (.int .i64 idx) (.int .i64 term) (.int .u32 (sm : Int)) (.int .i64 (tot : Int)) (.map (some gm)) fj (.bool all)
  else if C.sumOf B = sm then e = .returned (.int .i64 0) ∧ HpRow w' g (.int .i64 most) (.int .i64 idx) (.int .i64 term) (.int .u32 (sm : Int)) (.int .i64 (tot : Int)) (.map (some gm)) fj (.bool true)
  else e = .returned (.int .i64 51) ∧ HeapAt w' (fun _ => False) g most []

theorem HpRow.put7 {w : World} {g : Nat} {a0 a1 a2 a3 a4 m : Value} {fi : Nat} {a7 b7 : Value} (h : HpRow w g a0 a1 a2 a3 a4 m fi a7) : HpRow (w.setCell ⟨g, 7, none⟩ b7) g a0 a1 a2 a3 a4 m fi b7 := by
  unfold HpRow at h ⊢
  simp [World.setCell, Array.getElem?_modify, h]

/-- Drop, by its row. -/
theorem DropRow_any (g : Nat) (most : Int) (a1 a2 a3 a4 m : Value) (fi : Nat) (a7 : Value) (w : World) (hr : HpRow w g (.int .i64 most) a1 a2 a3 a4 m fi a7) :
    Calls Tryd.prog 10 #[.pointer (some ⟨g, 0, none⟩)] w fun e w' => e = .returned (.tuple #[]) ∧ Only (fun k => k = g) w w' ∧ HeapAt w' (fun _ => False) g most [] := by
  have HR := Lib.hid hr
  obtain ⟨⟨c0, c1, c2, c3, c4, c5, c6, c7⟩, hfz, hz⟩ := hr.cells
  have f0 := hfz 0
  have f1 := hfz 1
  have f2 := hfz 2
  have f3 := hfz 3
  have f4 := hfz 4
  have f5 := hfz 5
  have f6 := hfz 6
  have f7 := hfz 7
  clear hr hfz
  go_enter Tryd.func10, Tryd.ntmps10
  go_wp2_with fail
  go_end0
  refine ⟨rfl, ?_, ?_⟩
  · exact ((((((((Only.refl (fun k => k = g) w).set (.inl rfl) _).set (.inl rfl) _).set (.inl rfl) _).set (.inl rfl) _).set (.inl rfl) _).set (.inl rfl) _).set (.inl rfl) _).set (.inl rfl) _
  · exact HR.out.heap8 _ _ _ _ _ _ _

set_option maxRecDepth 20000 in
set_option maxHeartbeats 4000000 in
theorem Check_any (w : World) (X : Nat → Prop) (g gm nb fj sm tot : Nat) (most idx term : Int) (all : Bool) (M : DataW Nat) (S : Nat → Bool) (E T : Nat → Nat) (bs : Nat → List UInt8) (f : Nat → Option UInt8) (h : HeldAt w X gm nb M S E T bs f)
    (hr : HpRow w g (.int .i64 most) (.int .i64 idx) (.int .i64 term) (.int .u32 (sm : Int)) (.int .i64 (tot : Int)) (.map (some gm)) fj (.bool all)) (hf : ∀ i, i < fj → (f i).isSome = true) (hfj : fj ≤ 100000) (hT : Hid (Tab w)) :
    Calls Tryd.prog 34 #[.pointer (some ⟨g, 0, none⟩)] w (CkPost w g most idx term sm tot fj gm all (bytesOf f fj)) := by
  obtain ⟨⟨c0, c1, c2, c3, c4, c5, c6, c7⟩, hfz, hz⟩ := hr.cells
  have HR := Lib.hid hr
  have HF := Lib.hid hf
  have H := Lib.hid h
  clear h hr hf
  cases all with
  | true =>
    clear hfz
    go_enter Tryd.func34, Tryd.ntmps34
    go_wp2_with fail
    go_quiet (fail)
    go_wp2_with fail
    go_ret
    refine ⟨Only.drewN _ _ _, ?_⟩
    rw [if_pos (.inl rfl)]
    exact ⟨rfl, HR.out⟩
  | false =>
    by_cases hlt : fj < tot
    · have q1 : decide ((fj : Int) < (tot : Int)) = true := decide_eq_true (by omega)
      have HL := Lib.hid hlt
      clear hfz hlt
      go_enter Tryd.func34, Tryd.ntmps34
      go_wp2_with fail
      go_quiet (fail)
      go_wp2_with fail
      go_ret
      refine ⟨Only.drewN _ _ _, ?_⟩
      rw [if_pos (.inr HL.out)]
      exact ⟨rfl, HR.out⟩
    · have q1 : decide ((fj : Int) < (tot : Int)) = false := decide_eq_false (by omega)
      have HL := Lib.hid hlt
      clear hlt
      go_enter Tryd.func34, Tryd.ntmps34
      go_wp2_with fail
      go_quiet (fail)
      generalize hWn : World.drewN w _ = W1
      have hr1 : HpRow W1 g (.int .i64 most) (.int .i64 idx) (.int .i64 term) (.int .u32 (sm : Int)) (.int .i64 (tot : Int)) (.map (some gm)) fj (.bool false) := by rw [← hWn]; exact HR.out
      have hat1 : HeldAt W1.drew X gm nb M S E T bs f := by rw [← hWn]; exact H.out.same (Nat.le_refl _) (fun _ h => h) fun _ _ _ => rfl
      have HO1 : Hid (Only (fun k => k = g) w W1) := Lib.hid (by rw [← hWn]; exact Only.drewN _ _ _)
      have HT1 : Hid (Tab W1) := Lib.hid (by rw [← hWn]; exact hT.out)
      clear hWn c0 c1 c2 c3 c4 c5 c6 c7 hfz hz
      obtain ⟨⟨-, -, -, c3, -, -, -, -⟩, -, cz⟩ := hr1.cells
      have r0 : ∀ w', Below W1.heap.size W1 w' → w'.cell? ⟨g, 3, none⟩ = some (.int .u32 (sm : Int)) := fun w' hb => (hb.cell (p := ⟨g, 3, none⟩) cz).trans c3
      have hS : Below W1.heap.size W1 W1.drew := (Below.refl _ _).drew
      have HFC := Lib.hid (Front_any W1.drew X g gm nb fj _ _ _ _ _ _ M S E T bs f hat1 hr1 HF.out hfj)
      obtain ⟨B, hB⟩ : ∃ B, B = bytesOf f fj := ⟨_, rfl⟩
      rw [← hB] at HFC
      have HBE := Lib.hid hB
      have HR1 := Lib.hid hr1
      have HBL : Hid (B.length ≤ 100000) := Lib.hid (by rw [hB, bytesOf_length]; exact hfj)
      have HCZ := Lib.hid cz
      clear hr1 hat1 hB c3 cz
      go_wp2_with fail
      refine wp_region_held (S := fun w' => Below W1.heap.size W1 w') (by kernel_rfl) ?_
      refine H_take (i := 0) (v := ?_) rfl (by as_aux_lemma => kernel_rfl) (by as_aux_lemma => kernel_rfl) (by as_aux_lemma => kernel_rfl) (fun _ _ _ h => h) (by rfl) hS ?_ ?_
      rotate_left
      · intro w' hw'; go_simp; with_reducible rfl
      go_simp
      refine H_take (i := 1) (v := ?_) rfl (by as_aux_lemma => kernel_rfl) (by as_aux_lemma => kernel_rfl) (by as_aux_lemma => kernel_rfl) (fun _ _ _ h => h) (by rfl) hS ?_ ?_
      rotate_left
      · intro w' hw'; go_simp; with_reducible rfl
      go_simp
      refine H_take (i := 2) (v := ?_) rfl (by as_aux_lemma => kernel_rfl) (by as_aux_lemma => kernel_rfl) (by as_aux_lemma => kernel_rfl) (fun _ _ _ h => h) (by rfl) hS ?_ ?_
      rotate_left
      · intro w' hw'; go_simp; with_reducible rfl
      go_simp
      refine H_take (i := 3) (v := ?_) rfl (by as_aux_lemma => kernel_rfl) (by as_aux_lemma => kernel_rfl) (by as_aux_lemma => kernel_rfl) (fun _ _ _ h => h) (by rfl) hS ?_ ?_
      rotate_left
      · intro w' hw'; go_simp; with_reducible rfl
      go_simp
      refine H_take (i := 4) (v := ?_) rfl (by as_aux_lemma => kernel_rfl) (by as_aux_lemma => kernel_rfl) (by as_aux_lemma => kernel_rfl) (fun _ _ _ h => h) (by rfl) hS ?_ ?_
      rotate_left
      · intro w' hw'; go_simp; with_reducible rfl
      go_simp
      refine H_take (i := 5) (v := ?_) rfl (by as_aux_lemma => kernel_rfl) (by as_aux_lemma => kernel_rfl) (by as_aux_lemma => kernel_rfl) (fun _ _ _ h => h) (by rfl) hS ?_ ?_
      rotate_left
      · intro w' hw'; go_simp; with_reducible rfl
      go_simp
      refine H_take (i := 6) (v := ?_) rfl (by as_aux_lemma => kernel_rfl) (by as_aux_lemma => kernel_rfl) (by as_aux_lemma => kernel_rfl) (fun _ _ _ h => h) (by rfl) hS ?_ ?_
      rotate_left
      · intro w' hw'; go_simp; with_reducible rfl
      go_simp
      refine H_take (i := 7) (v := ?_) rfl (by as_aux_lemma => kernel_rfl) (by as_aux_lemma => kernel_rfl) (by as_aux_lemma => kernel_rfl) (fun _ _ _ h => h) (by rfl) hS ?_ ?_
      rotate_left
      · intro w' hw'; go_simp; with_reducible rfl
      go_simp
      refine H_one (i := 8) (by as_aux_lemma => kernel_rfl) rfl (by rfl) ?_
      go_simp
      refine (HFC.out).mono ?_
      rintro e w2 ⟨v, rfl, hb2, hv2⟩
      obtain ⟨va, vc, rfl, -⟩ := hv2.slice
      have hS2 : Below W1.heap.size W1 w2 := hS.trans hb2
      have HV2 := Lib.hid hv2
      have HB2 := Lib.hid hS2
      clear hb2 hv2
      refine ⟨hS2, ?_⟩
      go_simp
      refine H_one (i := 9) (by as_aux_lemma => kernel_rfl) rfl (by rfl) ?_
      go_simp
      have hS3 : Below W1.heap.size W1 (w2.alloc (.cells #[.slice va B.length vc] 24)) := hS2.trans ((below_alloc _ _).mono hS2.size)
      refine ⟨hS3, ?_⟩
      obtain ⟨W3, hW3⟩ : ∃ W3, W3 = w2.alloc (.cells #[.slice va B.length vc] 24) := ⟨_, rfl⟩
      have HFT : Hid (Calls Tryd.prog 40 #[.int .u32 (sm : Int), .slice (some ⟨w2.heap.size, 0, none⟩) 1 1] W3 fun e w' => e = .returned (.bool (decide (C.sumOf B = sm))) ∧ W3 = w') := Lib.hid (by
        have h1 := Fits_any sm [B] _ _ W3 (by rw [hW3]; exact RepBl.one HV2.out rfl (fun k hk => hk.2)) (Lib.hid (HT1.out.next (by rw [hW3]; exact hS3)))
        simpa using h1)
      rw [← hW3] at hS3 ⊢
      have HO3 : Hid (Only (fun k => k = g) w W3) := Lib.hid (HO1.out.next hS3)
      have HR3 : Hid (HpRow W3 g (.int .i64 most) (.int .i64 idx) (.int .i64 term) (.int .u32 (sm : Int)) (.int .i64 (tot : Int)) (.map (some gm)) fj (.bool false)) := Lib.hid (old_below HR1.out hS3)
      clear hW3
      refine H_one (i := 10) (by as_aux_lemma => kernel_rfl) rfl (by rfl) ?_
      go_simp
      refine (HFT.out).mono ?_
      rintro e w4 ⟨rfl, rfl⟩
      refine ⟨hS3, ?_⟩
      go_simp
      obtain ⟨ok, hok⟩ : ∃ ok, ok = decide (C.sumOf B = sm) := ⟨_, rfl⟩
      rw [← hok]
      have HOK := Lib.hid hok
      clear hok
      refine H_take (i := 11) (v := ?_) rfl (by as_aux_lemma => kernel_rfl) (by as_aux_lemma => kernel_rfl) (by as_aux_lemma => kernel_rfl) (fun _ _ _ h => h) (by rfl) hS3 ?_ ?_
      rotate_left
      · intro w' hw'; go_simp; with_reducible rfl
      go_simp
      refine wpAnyH_done (by as_aux_lemma => kernel_rfl) ?_ _
      clear r0 hS hS2 hS3
      cases ok with
      | true =>
        have HEQ : Hid (C.sumOf B = sm) := Lib.hid (by simpa using HOK.out.symm)
        obtain ⟨⟨-, -, -, -, -, -, -, c7⟩, hfz, cz⟩ := HR3.out.cells
        have f7 := hfz 7
        clear hfz
        go_wp2_with fail
        go_ret
        refine ⟨HO3.out.set (.inl rfl) _, ?_⟩
        rw [if_neg (by rintro (h | h); cases h; exact HL.out h), ← HBE.out, if_pos HEQ.out]
        exact ⟨rfl, HR3.out.put7⟩
      | false =>
        have HEQ : Hid (¬ C.sumOf B = sm) := Lib.hid (by simpa using HOK.out.symm)
        go_wp2_with (go_at_call 10; refine (DropRow_any g most _ _ _ _ _ fj _ W3 HR3.out).mono ?_; rintro e w5 ⟨rfl, ho5, hh5⟩; have HO5 := Lib.hid (HO3.out.then ho5); have HH5 := Lib.hid hh5; clear ho5 hh5)
        go_ret
        refine ⟨HO5.out, ?_⟩
        rw [if_neg (by rintro (h | h); cases h; exact HL.out h), ← HBE.out, if_neg HEQ.out]
        exact ⟨rfl, HH5.out⟩
end Go.Proofs.YtdngfbljcmbniaaDoor.M

/- Part: ChJ. -/
namespace Go.Proofs.YtdngfbljcmbniaaDoor.M
open Go.RowKit Go.Maps

theorem eqGoal_any (p q : Pc) (w : World) : (Op.equalIn 10000 59 (goalAgg p) (goalAgg q)).run Tryd.prog w = .ok (alike p q) w := by
  obtain ⟨i, t, s, o, p1, b1⟩ := p
  obtain ⟨i', t', s', o', p2, b2⟩ := q
  have e : alike ⟨i, t, s, o, p1, b1⟩ ⟨i', t', s', o', p2, b2⟩ = (i == i' && (t == t' && (s == s' && o == o'))) := by
    unfold alike
    rw [Bool.eq_iff_iff]
    simp
  rw [e]
  unfold goalAgg
  simp only
  go_simp
  by_cases h1 : i = i' <;> by_cases h2 : t = t' <;> by_cases h3 : s = s' <;> by_cases h4 : o = o' <;> simp [h1, h2, h3, h4]

/-- What a take leaves. -/
def TakePost (w : World) (X : Nat → Prop) (g : Nat) (most : Int) (L : List Pc) (p : Pc) (e : Ending) (w' : World) : Prop :=
  e = .returned (.int .i64 (takeE most L p).1) ∧ Only (fun k => X k ∨ k = g) w w' ∧ ∃ Y, HeapIn w' Y g most (takeE most L p).2 ∧ ∀ j, Y j → X j ∨ w.heap.size ≤ j

theorem heapNil {w : World} {X Y : Nat → Prop} {g : Nat} {most : Int} (h : HeapAt w X g most []) : HeapAt w Y g most [] := h

/-- Laid, and held against the sum. -/
theorem take_done {w2 w3 : World} {Y : Nat → Prop} {g gm nb fj sm tot : Nat} {most : Int} {all : Bool} {L0 M : List Pc} {f p : Pc} {e : Ending}
    (hL : L0 ++ [p] = f :: M) (hpre : HPre most (f :: M)) (hlike : p.sum = f.sum) (hsm : (sm : Int) = f.sum) (htot : (tot : Int) = f.tot) (hall : all = wholeB L0) (hinv : HInv most L0) (hp : okPc most p = true) (hpa : ∀ q ∈ L0, alike p q = true)
    (hheld : Held w2 Y gm nb (byteL (f :: M))) (hnb : nb ≤ 1000 * (f :: M).length) (hYg : ¬ Y g) (hYl : ∀ j, Y j → j < w2.heap.size) (h1 : ∀ i, i < fj → (byteL (f :: M) i).isSome = true) (h2 : (byteL (f :: M) fj).isSome = false)
    (hck : CkPost w2 g most f.idx f.term sm tot fj gm all (bytesOf (byteL (f :: M)) fj) e w3) : e = .returned (.int .i64 (layE L0 p).1) ∧ ∃ Z, HeapIn w3 Z g most (layE L0 p).2 ∧ ∀ j, Z j → Y j := by
  obtain ⟨ho, hck⟩ := hck
  have hm : missing (f :: M) = fj := hpre.missing_is h1 h2
  have htn : totN (f :: M) = tot := by show f.tot.toNat = tot; omega
  have hle := (missing_spec (f :: M)).1
  rw [hm, htn] at hle
  have hlt : ∀ j, Y j → j < w3.heap.size := fun j hj => Nat.lt_of_lt_of_le (hYl j hj) ho.size
  have hh3 : Held w3 Y gm nb (byteL (f :: M)) := hheld.same (Nat.le_refl _) (fun _ h => h) fun j hj hl => ho.block j hl fun e => hYg (e ▸ hj)
  have hw : ∀ b : Bool, wholeB (f :: M) = b → HpRow w3 g (.int .i64 most) (.int .i64 f.idx) (.int .i64 f.term) (.int .u32 (sm : Int)) (.int .i64 (tot : Int)) (.map (some gm)) fj (.bool b) → HeapIn w3 Y g most (f :: M) := fun b hb hr => by
    rw [hsm, htot, ← hm, ← hb] at hr
    exact ⟨⟨gm, nb, hr, hh3, hnb⟩, hYg, hlt⟩
  have hlay : layE L0 p = if wholeB (f :: M) && !decide ((C.sumOf (bytesOf (byteL (f :: M)) (totN (f :: M))) : Int) = p.sum) then (51, []) else (0, f :: M) := by unfold layE; rw [hL]
  by_cases hc : all = true ∨ fj < tot
  · rw [if_pos hc] at hck
    obtain ⟨rfl, hr⟩ := hck
    have hlE : layE L0 p = (0, f :: M) ∧ wholeB (f :: M) = all := by
      cases hal : all with
      | true =>
        rw [hal] at hall
        cases L0 with
        | nil => cases hall
        | cons q L0 =>
          have hwh := (whole_same hinv hall.symm hp (hpa q (by simp))).1
          rw [layE_whole hinv hall.symm hp (hpa q (by simp)), hL]
          rw [hL] at hwh
          exact ⟨rfl, hwh⟩
      | false =>
        rw [hal] at hc
        have hlt : fj < tot := by rcases hc with h | h; cases h; exact h
        have hwf : wholeB (f :: M) = false := by
          unfold wholeB
          rw [hm, htn, decide_eq_false (by omega)]
          simp
        rw [hlay, hwf]
        exact ⟨rfl, rfl⟩
    rw [hlE.1]
    exact ⟨rfl, Y, hw _ hlE.2 hr, fun _ h => h⟩
  · rw [if_neg hc] at hck
    have hwt : wholeB (f :: M) = true := by
      unfold wholeB
      rw [hm, htn, decide_eq_true (by omega)]
      simp
    have hft : fj = tot := by omega
    have hB : (C.sumOf (bytesOf (byteL (f :: M)) (totN (f :: M))) : Int) = p.sum ↔ C.sumOf (bytesOf (byteL (f :: M)) fj) = sm := by
      rw [htn, ← hft, hlike, ← hsm]
      omega
    by_cases hs : C.sumOf (bytesOf (byteL (f :: M)) fj) = sm
    · rw [if_pos hs] at hck
      obtain ⟨rfl, hr⟩ := hck
      have hlE : layE L0 p = (0, f :: M) := by
        rw [hlay, hwt, decide_eq_true (hB.2 hs)]
        rfl
      rw [hlE]
      exact ⟨rfl, Y, hw true hwt hr, fun _ h => h⟩
    · rw [if_neg hs] at hck
      obtain ⟨rfl, hr⟩ := hck
      have hlE : layE L0 p = (51, []) := by
        rw [hlay, hwt, decide_eq_false (fun h => hs (hB.1 h))]
        rfl
      rw [hlE]
      exact ⟨rfl, fun _ => False, ⟨hr, fun h => h, fun k h => h.elim⟩, fun j h => h.elim⟩
end Go.Proofs.YtdngfbljcmbniaaDoor.M
