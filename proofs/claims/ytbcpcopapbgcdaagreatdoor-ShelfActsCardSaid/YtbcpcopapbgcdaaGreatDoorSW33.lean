/- The document's disk in a law's own memory. -/
import Derived.Test.YtbcpcopapbgcdaaGreatDoorSW27
import Derived.Test.YtbcpcopapbgcdaaGreatDoorSW21
import Derived.Test.YtbcpcopapbgcdaaGreatDoorSW32
namespace Go.Proofs.YtbcpcopapbgcdaaGreatDoor.M
open Go.RowKit
open D (Fl Dk)

structure QS (w : World) (Y : Nat → Prop) (gr : Nat) (e : Dk) (wr : World) : Prop where
  below : Below w.heap.size w wr
  own : ∀ k, Y k → w.heap.size ≤ k
  dsk : DskIn wr Y gr e
  well : Well e

theorem QS.lt {w wr : World} {Y : Nat → Prop} {gr : Nat} {e : Dk} (h : QS w Y gr e wr) : ∀ k, Y k → k < wr.heap.size := h.dsk.2

theorem QS.next {w wr w' : World} {Y : Nat → Prop} {gr : Nat} {e : Dk} (h : QS w Y gr e wr) (hb : Below wr.heap.size wr w') : QS w Y gr e w' :=
  ⟨h.below.trans (hb.mono h.below.size), h.own, ⟨h.dsk.1.same (fun _ h => h) fun k hk => hb.block k (h.lt k hk), fun k hk => Nat.lt_of_lt_of_le (h.lt k hk) hb.size⟩, h.well⟩

/-- Where other blocks of the law's own have turned. -/
theorem QS.only {w wr w' : World} {Y X : Nat → Prop} {gr : Nat} {e : Dk} (h : QS w Y gr e wr) (ho : Only X wr w') (hX : ∀ k, X k → w.heap.size ≤ k) (hd : ∀ k, X k → ¬ Y k) : QS w Y gr e w' :=
  ⟨⟨ho.os.trans h.below.os, ho.tape.trans h.below.tape, ho.output.trans h.below.output, Nat.le_trans h.below.size ho.size, fun k hk => by
    rw [ho.block k (Nat.lt_of_lt_of_le hk h.below.size) fun hx => by have := hX k hx; omega]
    exact h.below.block k hk⟩, h.own, ⟨h.dsk.1.same (fun _ h => h) fun k hk => ho.block k (h.lt k hk) fun hx => hd k hx hk, fun k hk => Nat.lt_of_lt_of_le (h.lt k hk) ho.size⟩, h.well⟩

theorem DS.only {w wr w' : World} {X Y : Nat → Prop} {gd : Nat} {d : Dk} (h : DS w X gd d wr) (ho : Only Y wr w') (hY : ∀ k, Y k → w.heap.size ≤ k) (hd : ∀ k, Y k → ¬ X k) : DS w X gd d w' :=
  ⟨⟨ho.os.trans h.below.os, ho.tape.trans h.below.tape, ho.output.trans h.below.output, Nat.le_trans h.below.size ho.size, fun k hk => by
    rw [ho.block k (Nat.lt_of_lt_of_le hk h.below.size) fun hx => by have := hY k hx; omega]
    exact h.below.block k hk⟩, h.own, ⟨h.dsk.1.same (fun _ h => h) fun k hk => ho.block k (h.lt k hk) fun hx => hd k hx hk, fun k hk => Nat.lt_of_lt_of_le (h.lt k hk) ho.size⟩, h.well⟩

/-- What a call on it leaves. -/
def QPost (w : World) (Y : Nat → Prop) (gr : Nat) (wr : World) (r : Int × Dk) (e : Ending) (w' : World) : Prop :=
  e = .returned (.int .i64 r.1) ∧ Only Y wr w' ∧ ∃ Y', (∀ k, Y' k → Y k ∨ wr.heap.size ≤ k) ∧ QS w Y' gr r.2 w'

theorem QS.post {w wr w' : World} {Y : Nat → Prop} {gr : Nat} {d : Dk} {r : Int × Dk} {e : Ending} (h : QS w Y gr d wr) (hw : Well r.2) (hp : CallPost wr Y gr r e w') : QPost w Y gr wr r e w' := by
  obtain ⟨he, ho, hd⟩ := hp
  refine ⟨he, ho, More Y wr w', fun k hk => ?_, ⟨⟨ho.os.trans h.below.os, ho.tape.trans h.below.tape, ho.output.trans h.below.output, Nat.le_trans h.below.size ho.size, fun k hk => ?_⟩, fun k hk => ?_, ⟨hd, fun k hk => ?_⟩, hw⟩⟩
  · rcases hk with hk | hk
    · exact .inl hk
    · exact .inr hk.1
  · rw [ho.block k (Nat.lt_of_lt_of_le hk h.below.size) fun hx => by have := h.own k hx; omega]
    exact h.below.block k hk
  · rcases hk with hk | hk
    · exact h.own k hk
    · exact Nat.le_trans h.below.size hk.1
  · rcases hk with hk | hk
    · exact Nat.lt_of_lt_of_le (h.lt k hk) ho.size
    · exact hk.2

section
variable {w : World} {Y : Nat → Prop} {gr : Nat} {d : Dk} {wr : World} (h : QS w Y gr d wr)
include h

theorem QAppend (s : ByteArray) (bs : List (List UInt8)) (F : Nat → Prop) (vb : Value) (hs : s.size ≤ 9223372036854775807) (hv : RepBl wr F bs vb) (hF : ∀ k, F k → k < wr.heap.size ∧ ¬ Y k) (hu : D.used d.fs + bs.flatten.length ≤ 1099511627776) :
    Calls Tryz.prog 36 #[.pointer (some ⟨gr, 0, none⟩), .string s, vb] wr (QPost w Y gr wr (D.append d s bs)) :=
  (RefAppend_any d Y gr s bs F vb wr h.dsk (Lib.hid h.well.1.1) hs hv hF (Lib.hid hu)).mono fun _ _ hp => h.post (append_well h.well s bs).1 hp

theorem QRemove (names : List ByteArray) (F : Nat → Prop) (vn : Value) (hv : RepSl wr F names vn) (hF : ∀ k, F k → k < wr.heap.size ∧ ¬ Y k) :
    Calls Tryz.prog 80 #[.pointer (some ⟨gr, 0, none⟩), vn] wr (QPost w Y gr wr (D.remove d names)) :=
  (RefRemove_any d Y gr names F vn wr h.dsk (Lib.hid h.well.1.1) hv hF).mono fun _ _ hp => h.post (remove_well h.well names).1 hp

theorem QSync (names : List ByteArray) (F : Nat → Prop) (vn : Value) (hv : RepSl wr F names vn) (hF : ∀ k, F k → k < wr.heap.size ∧ ¬ Y k) :
    Calls Tryz.prog 81 #[.pointer (some ⟨gr, 0, none⟩), vn] wr (QPost w Y gr wr (D.sync d names)) :=
  (RefSync_any d Y gr names F vn wr h.dsk (Lib.hid h.well.1.1) hv hF).mono fun _ _ hp => h.post (sync_well h.well names).1 hp

theorem QRename (a b : ByteArray) (hb : b.size ≤ 9223372036854775807) :
    Calls Tryz.prog 82 #[.pointer (some ⟨gr, 0, none⟩), .string a, .string b] wr (QPost w Y gr wr (D.rename d a b)) :=
  (RefRename_any d Y gr a b wr h.dsk (Lib.hid h.well.1.1) hb).mono fun _ _ hp => h.post (rename_well h.well a b).1 hp
end

/-- The document's new disk. -/
theorem newQ (w wr : World) (n : Int) (g : Nat) (hb : Below w.heap.size w wr) (hg : g = wr.heap.size) (h0 : 0 ≤ n) (h1 : n ≤ 9223372036854775807) :
    QS w (fun k => k = g) g (fresh n) (wr.alloc (.cells #[.int .i64 n, .slice none 0 0, .bool false, .int .i64 0] 69)) := by
  subst hg
  refine ⟨hb.trans ((below_alloc _ _).mono hb.size), fun k hk => by rw [hk]; exact hb.size, ⟨⟨.slice none 0 0, [], ⟨0, heap_alloc_new _ _, (fun h => by simp [fresh] at h)⟩, rfl, World.ownsRow_nil _ _ _ _, (fun p hp => by cases hp), (by simp [blocksOf, Value.ownBlock]), (fun k hk => by simpa [blocksOf, Value.ownBlock] using hk)⟩, fun k hk => by rw [hk]; simp⟩, fresh_well h0 h1⟩
end Go.Proofs.YtbcpcopapbgcdaaGreatDoor.M
