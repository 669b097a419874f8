/- The program's disk in a law's own memory; the document's examples. The document's examples, as law 3's statements begin with them. -/
import Derived.Test.YtamgjlegcegmeaaGreatDoorSD23
import Derived.Test.YtamgjlegcegmeaaGreatDoorSD20
import Derived.Lib.SlBytesConst
/- Part: DiskLaw. -/
namespace Go.Proofs.YtamgjlegcegmeaaGreatDoor.M
open Go.RowKit Go.Maps
open D (Fl Dk)

/-- A disk that a call has made, since the world w. -/
structure DS (w : World) (X : Nat → Prop) (gd : Nat) (d : Dk) (wr : World) : Prop where
  below : Below w.heap.size w wr
  own : ∀ k, X k → w.heap.size ≤ k
  dsk : PDskIn wr X gd d
  well : Well d

theorem PDskIn.next {w w' : World} {X : Nat → Prop} {gd : Nat} {d : Dk} (h : PDskIn w X gd d) (hb : Below w.heap.size w w') : PDskIn w' X gd d := ⟨h.1.same (fun _ h => h) fun k hk => hb.block k (h.2 k hk), fun k hk => Nat.lt_of_lt_of_le (h.2 k hk) hb.size⟩

theorem DS.next {w wr w' : World} {X : Nat → Prop} {gd : Nat} {d : Dk} (h : DS w X gd d wr) (hb : Below wr.heap.size wr w') : DS w X gd d w' :=
  ⟨h.below.trans (hb.mono h.below.size), h.own, h.dsk.next hb, h.well⟩

theorem DS.alloc {w wr : World} {X : Nat → Prop} {gd : Nat} {d : Dk} (h : DS w X gd d wr) (o : Obj) : DS w X gd d (wr.alloc o) := h.next (below_alloc _ _)

theorem DS.lt {w wr : World} {X : Nat → Prop} {gd : Nat} {d : Dk} (h : DS w X gd d wr) : ∀ k, X k → k < wr.heap.size := h.dsk.2

/-- Behind a call on it. -/
theorem DS.call {w wr w' : World} {X : Nat → Prop} {gd : Nat} {d : Dk} {r : Int × Dk} {e : Ending} (h : DS w X gd d wr) (hp : PPost wr X gd r e w') (hw : Well r.2) : DS w (More X wr w') gd r.2 w' := by
  obtain ⟨-, ho, hd⟩ := hp
  refine ⟨⟨ho.os.trans h.below.os, ho.tape.trans h.below.tape, ho.output.trans h.below.output, Nat.le_trans h.below.size ho.size, fun k hk => ?_⟩, fun k hk => ?_, ⟨hd, fun k hk => ?_⟩, hw⟩
  · rw [ho.block k (Nat.lt_of_lt_of_le hk h.below.size) fun hx => by have := h.own k hx; omega]
    exact h.below.block k hk
  · rcases hk with hk | hk
    · exact h.own k hk
    · exact Nat.le_trans h.below.size hk.1
  · rcases hk with hk | hk
    · exact Nat.lt_of_lt_of_le (h.lt k hk) ho.size
    · exact hk.2

/-- What a call on it leaves. -/
def DPost (w : World) (X : Nat → Prop) (gd : Nat) (wr : World) (r : Int × Dk) (e : Ending) (w' : World) : Prop :=
  e = .returned (.int .i64 r.1) ∧ Only X wr w' ∧ ∃ X', (∀ k, X' k → X k ∨ wr.heap.size ≤ k) ∧ DS w X' gd r.2 w'

theorem DS.post {w wr w' : World} {X : Nat → Prop} {gd : Nat} {d : Dk} {r : Int × Dk} {e : Ending} (h : DS w X gd d wr) (hw : Well r.2) (hp : PPost wr X gd r e w') : DPost w X gd wr r e w' :=
  ⟨hp.1, hp.2.1, _, fun k hk => by
    rcases hk with hk | hk
    · exact .inl hk
    · exact .inr hk.1, h.call hp hw⟩

section
variable {w : World} {X : Nat → Prop} {gd : Nat} {d : Dk} {wr : World} (h : DS w X gd d wr)
include h

theorem DAppend (s : ByteArray) (bs : List (List UInt8)) (F : Nat → Prop) (vb : Value) (hs : s.size ≤ 9223372036854775807) (hv : RepBl wr F bs vb) (hF : ∀ k, F k → k < wr.heap.size ∧ ¬ X k) (hu : D.used d.fs + bs.flatten.length ≤ 1099511627776) :
    Calls Tryz.prog 54 #[.pointer (some ⟨gd, 0, none⟩), .string s, vb] wr (DPost w X gd wr (D.append d s bs)) :=
  (PAppend_any d X gd s bs F vb wr h.dsk h.well.1 hs hv hF hu).mono fun _ _ hp => h.post (append_well h.well s bs).1 hp

theorem DSync (names : List ByteArray) (F : Nat → Prop) (vn : Value) (hs : ∀ s ∈ names, s.size ≤ 9223372036854775807) (hv : RepSl wr F names vn) (hF : ∀ k, F k → k < wr.heap.size ∧ ¬ X k) :
    Calls Tryz.prog 29 #[.pointer (some ⟨gd, 0, none⟩), vn] wr (DPost w X gd wr (D.sync d names)) :=
  (PSync_any d X gd names F vn wr h.dsk h.well.1 hs hv hF).mono fun _ _ hp => h.post (sync_well h.well names).1 hp

theorem DRemove (names : List ByteArray) (F : Nat → Prop) (vn : Value) (hs : ∀ s ∈ names, s.size ≤ 9223372036854775807) (hv : RepSl wr F names vn) (hF : ∀ k, F k → k < wr.heap.size ∧ ¬ X k) :
    Calls Tryz.prog 62 #[.pointer (some ⟨gd, 0, none⟩), vn] wr (DPost w X gd wr (D.remove d names)) :=
  (PRemove_any d X gd names F vn wr h.dsk h.well.1 hs hv hF).mono fun _ _ hp => h.post (remove_well h.well names).1 hp

theorem DCut (s : ByteArray) (n : Int) (hs : s.size ≤ 9223372036854775807) (h1 : -9223372036854775808 ≤ n) (h2 : n ≤ 9223372036854775807) :
    Calls Tryz.prog 68 #[.pointer (some ⟨gd, 0, none⟩), .string s, .int .i64 n] wr (DPost w X gd wr (D.cut d s n)) :=
  (PCut_any d X gd s n wr h.dsk h.well.1 hs h1 h2).mono fun _ _ hp => h.post (cut_well h.well s n).1 hp

theorem DCrash (ks : List Int) (F : Nat → Prop) (vk : Value) (hv : RepI wr F ks vk) (hF : ∀ k, F k → k < wr.heap.size ∧ ¬ X k) :
    Calls Tryz.prog 12 #[.pointer (some ⟨gd, 0, none⟩), vk] wr (DPost w X gd wr ((((D.crash d ks).1 : Nat) : Int), (D.crash d ks).2)) :=
  (PCrash_any d X gd ks F vk wr h.dsk h.well.1 h.well.names hv hF).mono fun _ _ hp => h.post (crash_well h.well ks).1 hp
end

theorem RepSl.new {w : World} {ls : List ByteArray} {t : TypeId} {g n : Nat} (hg : g = w.heap.size) (hn : n = ls.length) (hl : ls.length ≤ 9223372036854775807) :
    RepSl (w.alloc (.cells (ls.map Value.string).toArray t)) (fun b => b = g) ls (.slice (some ⟨g, 0, none⟩) n n) := by
  subst hg hn
  refine .inr ⟨w.heap.size, 0, ls.length, rfl, rfl, Nat.le_refl _, hl, fun i hi => ?_⟩
  have := cell_of_row _ w.heap.size (0 + i) _ t _ (heap_alloc_new w (.cells (ls.map Value.string).toArray t))
  rw [this]
  simp [hi]

theorem RepI.new {w : World} {ls : List Int} {t : TypeId} {g n : Nat} (hg : g = w.heap.size) (hn : n = ls.length) (hl : ls.length ≤ 9223372036854775807) (hb : ∀ i ∈ ls, -9223372036854775808 ≤ i ∧ i ≤ 9223372036854775807) :
    RepI (w.alloc (.cells (ls.map (Value.int .i64)).toArray t)) (fun b => b = g) ls (.slice (some ⟨g, 0, none⟩) n n) := by
  subst hg hn
  refine .inr ⟨w.heap.size, 0, ls.length, rfl, rfl, Nat.le_refl _, hl, fun i hi => ⟨?_, hb _ (List.getElem_mem hi)⟩⟩
  have := cell_of_row _ w.heap.size (0 + i) _ t _ (heap_alloc_new w (.cells (ls.map (Value.int .i64)).toArray t))
  rw [this]
  simp [hi]

def nmA : ByteArray := ⟨#[97]⟩
def nmB : ByteArray := ⟨#[98]⟩
def x1 : Dk := fresh 10
def x2 : Dk := (D.append x1 nmA [[120, 121, 122]]).2
def x3 : Dk := (D.sync x2 [nmA]).2
def x4 : Dk := (D.append x3 nmA [[117], [118, 119]]).2
def x5 : Dk := (D.append x4 nmB [[49, 50, 51, 52, 53]]).2
def x6 : Dk := (D.crash x5 [1]).2

theorem ex_2 : (D.append x1 nmA [[120, 121, 122]]).1 = 0 ∧ D.used x2.fs = 3 := by decide +kernel
theorem ex_3 : (D.sync x2 [nmA]).1 = 0 ∧ D.used x3.fs = 3 := by decide +kernel
theorem ex_4 : (D.append x3 nmA [[117], [118, 119]]).1 = 0 ∧ D.used x4.fs = 6 := by decide +kernel
theorem ex_5 : (D.append x4 nmB [[49, 50, 51, 52, 53]]).1 = 31 ∧ D.used x5.fs = 6 := by decide +kernel
theorem ex_6 : (D.crash x5 [1]).1 = 2 ∧ D.used x6.fs = 4 := by decide +kernel
theorem ex_7 : bytesOf x6.fs nmA = [120, 121, 122, 117] ∧ D.isThere x6.fs nmA = true := by decide +kernel
end Go.Proofs.YtamgjlegcegmeaaGreatDoor.M

/- Part: DiskAwake. -/
namespace Go.Proofs.YtamgjlegcegmeaaGreatDoor.M
open Go.RowKit Go.Maps
open D (Fl Dk)

/-- A disk's call is told bytes of a new block. -/
theorem DS.one {w wr : World} {X : Nat → Prop} {gd : Nat} {d : Dk} (h : DS w X gd d wr) (L : List UInt8) (n : Nat) (hn : n = L.length) (hl : L.length ≤ 9223372036854775807) (fr : Nat × Nat) (t1 t2 : TypeId) {W : World}
    (hW : W = (wr.alloc (.cells (L.map byteV).toArray t1 fr)).alloc (.cells #[.slice (some ⟨wr.heap.size, 0, none⟩) n n] t2)) :
    DS w X gd d W ∧ RepBl W (fun b => b = wr.heap.size ∨ b = wr.heap.size + 1) [L] (.slice (some ⟨wr.heap.size + 1, 0, none⟩) 1 1) ∧ ∀ k, (k = wr.heap.size ∨ k = wr.heap.size + 1) → k < W.heap.size ∧ ¬ X k := by
  subst hW hn
  refine ⟨(h.alloc _).alloc _, RepBl.one (RepB.new (L := L) rfl hl) (by simp) (fun k hk => by rw [hk]; simp), fun k hk => ⟨by rcases hk with hk | hk <;> (rw [hk]; simp <;> omega), fun hx => by
    have := h.lt k hx
    omega⟩⟩

/-- .. of two. -/
theorem DS.two {w wr : World} {X : Nat → Prop} {gd : Nat} {d : Dk} (h : DS w X gd d wr) (L1 L2 : List UInt8) (n1 n2 : Nat) (hn1 : n1 = L1.length) (hn2 : n2 = L2.length) (hl1 : L1.length ≤ 9223372036854775807) (hl2 : L2.length ≤ 9223372036854775807) (fr1 fr2 : Nat × Nat) (t1 t2 t3 : TypeId) {W : World}
    (hW : W = ((wr.alloc (.cells (L1.map byteV).toArray t1 fr1)).alloc (.cells (L2.map byteV).toArray t2 fr2)).alloc (.cells #[.slice (some ⟨wr.heap.size, 0, none⟩) n1 n1, .slice (some ⟨wr.heap.size + 1, 0, none⟩) n2 n2] t3)) :
    DS w X gd d W ∧ RepBl W (fun b => (b = wr.heap.size ∨ b = wr.heap.size + 1) ∨ b = wr.heap.size + 1 + 1) [L1, L2] (.slice (some ⟨wr.heap.size + 1 + 1, 0, none⟩) 2 2) ∧ ∀ k, ((k = wr.heap.size ∨ k = wr.heap.size + 1) ∨ k = wr.heap.size + 1 + 1) → k < W.heap.size ∧ ¬ X k := by
  subst hW hn1 hn2
  refine ⟨((h.alloc _).alloc _).alloc _, ?_, fun k hk => ⟨by rcases hk with (hk | hk) | hk <;> (rw [hk]; simp <;> omega), fun hx => by
    have := h.lt k hx
    omega⟩⟩
  refine RepBl.new (w := (wr.alloc (.cells (L1.map byteV).toArray t1 fr1)).alloc (.cells (L2.map byteV).toArray t2 fr2)) (ls := [L1, L2]) (us := [.slice (some ⟨wr.heap.size, 0, none⟩) L1.length L1.length, .slice (some ⟨wr.heap.size + 1, 0, none⟩) L2.length L2.length]) (by simp) rfl (by simp) (fun k hk => by rcases hk with hk | hk <;> (rw [hk]; simp <;> omega)) fun i h1 h2 => ?_
  match i, h1 with
  | 0, _ => exact (RepB.new (w := wr) (L := L1) (t := t1) (fr := fr1) rfl hl1).same (fun k hk => .inl hk) fun k hk => Below.heap_alloc _ _ _ (by rw [hk]; simp)
  | 1, _ => exact (RepB.new (w := wr.alloc (.cells (L1.map byteV).toArray t1 fr1)) (L := L2) (t := t2) (fr := fr2) (by simp) hl2).same (fun k hk => .inr hk) fun _ _ => rfl

theorem DS.names {w wr : World} {X : Nat → Prop} {gd : Nat} {d : Dk} (h : DS w X gd d wr) (ls : List ByteArray) (n : Nat) (hn : n = ls.length) (hl : ls.length ≤ 9223372036854775807) (t : TypeId) {W : World} (hW : W = wr.alloc (.cells (ls.map Value.string).toArray t)) :
    DS w X gd d W ∧ RepSl W (fun b => b = wr.heap.size) ls (.slice (some ⟨wr.heap.size, 0, none⟩) n n) ∧ ∀ k, k = wr.heap.size → k < W.heap.size ∧ ¬ X k := by
  subst hW
  exact ⟨h.alloc _, RepSl.new rfl hn hl, fun k hk => ⟨by rw [hk]; simp, fun hx => by have := h.lt k hx; omega⟩⟩

theorem DS.ints {w wr : World} {X : Nat → Prop} {gd : Nat} {d : Dk} (h : DS w X gd d wr) (ls : List Int) (n : Nat) (hn : n = ls.length) (hl : ls.length ≤ 9223372036854775807) (hb : ∀ i ∈ ls, -9223372036854775808 ≤ i ∧ i ≤ 9223372036854775807) (t : TypeId) {W : World} (hW : W = wr.alloc (.cells (ls.map (Value.int .i64)).toArray t)) :
    DS w X gd d W ∧ RepI W (fun b => b = wr.heap.size) ls (.slice (some ⟨wr.heap.size, 0, none⟩) n n) ∧ ∀ k, k = wr.heap.size → k < W.heap.size ∧ ¬ X k := by
  subst hW
  exact ⟨h.alloc _, RepI.new rfl hn hl hb, fun k hk => ⟨by rw [hk]; simp, fun hx => by have := h.lt k hx; omega⟩⟩

theorem x1_used : D.used x1.fs = 0 := rfl

end Go.Proofs.YtamgjlegcegmeaaGreatDoor.M
