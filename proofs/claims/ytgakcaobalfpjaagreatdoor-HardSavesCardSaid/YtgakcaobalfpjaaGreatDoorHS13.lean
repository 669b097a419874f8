/- Both disks beside what keeps a hard state, in a law's own memory. The law HardSaves. The table of package sum, as the statements' rows lay it. -/
import Derived.Test.YtgakcaobalfpjaaGreatDoorHS12
import Derived.Test.YtgakcaobalfpjaaGreatDoorHS5
import Derived.Deep.Cut
import Derived.Deep.CutBlock
import Derived.Deep.CutRange
import Derived.Test.YtgakcaobalfpjaaGreatDoorHS7
import Derived.Test.YtgakcaobalfpjaaGreatDoorCards
import Derived.Test.YtgakcaobalfpjaaGreatDoorTie
import Derived.ProofKit
import Derived.Deep.DeepHandedRow
import Derived.Lib.LaidTab
/- Part: Hard8. -/
namespace Go.Proofs.YtgakcaobalfpjaaGreatDoor.M
open Go.RowKit Go.Maps
open D (Fl Dk)

theorem save_well {d : Dk} (h : Well d) (has s : Int × Int) : Well (save d has s).2 ∧ D.used (save d has s).2.fs ≤ D.used d.fs + 31 := by
  unfold save
  split
  · exact ⟨h, by simp only; omega⟩
  · split
    · exact ⟨h, by simp only; omega⟩
    · have h1 := saveF_well h (other (newest d.fs).1) (slotForm ((newest d.fs).2.1 + 1) s)
      have h2 := slotForm_le ((newest d.fs).2.1 + 1) s
      exact ⟨h1.1, by omega⟩

/-- Both disks, what keeps the program's state, and the state as the law has it by itself. -/
structure TH (K : Nat → Obj → Prop) (w : World) (X Y : Nat → Prop) (gd gr gh gs : Nat) (d e : Dk) (has st : Int × Int) (wr : World) : Prop where
  hs : HS w X gd gh d has wr
  q : DskIn wr Y gr e
  ownY : ∀ k, Y k → w.heap.size ≤ k
  dis : ∀ k, X k → ¬ Y k
  nh : ¬ Y gh
  box : wr.heap[gs]? = some (.cells #[.int .i64 st.1, .int .i64 st.2] 33)
  sx : ¬ X gs
  sy : ¬ Y gs
  sh : gs ≠ gh
  new : w.heap.size ≤ gs
  we : Well e
  kp : ∀ g o, K g o → wr.heap[g]? = some o ∧ ¬ X g ∧ ¬ Y g ∧ g ≠ gh ∧ g ≠ gs

section
variable {K : Nat → Obj → Prop} {w wr : World} {X Y : Nat → Prop} {gd gr gh gs : Nat} {d e : Dk} {has st : Int × Int}

theorem TH.below (h : TH K w X Y gd gr gh gs d e has st wr) : Below w.heap.size w wr := h.hs.ds.below

theorem TH.next {w' : World} (h : TH K w X Y gd gr gh gs d e has st wr) (hb : Below wr.heap.size wr w') : TH K w X Y gd gr gh gs d e has st w' :=
  ⟨h.hs.next hb, ⟨h.q.1.same (fun _ h => h) fun k hk => hb.block k (h.q.2 k hk), fun k hk => Nat.lt_of_lt_of_le (h.q.2 k hk) hb.size⟩, h.ownY, h.dis, h.nh, old_below h.box hb, h.sx, h.sy, h.sh, h.new, h.we, fun g o hg => ⟨old_below (h.kp g o hg).1 hb, (h.kp g o hg).2⟩⟩

/-- Behind a call on the document's disk. -/
theorem TH.ref {w' : World} {Y' : Nat → Prop} {e' : Dk} (h : TH K w X Y gd gr gh gs d e has st wr) (ho : Only Y wr w') (hy : ∀ k, Y' k → Y k ∨ wr.heap.size ≤ k) (hq : DskIn w' Y' gr e') (hw : Well e') : TH K w X Y' gd gr gh gs d e' has st w' := by
  have hz := h.hs.ds.below.size
  have hh := lt_of_heap h.hs.blk
  have hs := lt_of_heap h.box
  refine ⟨⟨⟨⟨ho.os.trans h.below.os, ho.tape.trans h.below.tape, ho.output.trans h.below.output, Nat.le_trans hz ho.size, fun k hk => ?_⟩, h.hs.ds.own, ⟨h.hs.ds.dsk.1.same (fun _ h => h) fun k hk => ho.block k (h.hs.ds.lt k hk) (h.dis k hk), fun k hk => Nat.lt_of_lt_of_le (h.hs.ds.lt k hk) ho.size⟩, h.hs.ds.well⟩, (ho.block gh hh h.nh).trans h.hs.blk, h.hs.out, h.hs.new⟩,
    hq, fun k hk => ?_, fun k hk hk2 => ?_, fun hk => ?_, (ho.block gs hs h.sy).trans h.box, h.sx, fun hk => ?_, h.sh, h.new, hw, fun g o hg => ?_⟩
  · rw [ho.block k (Nat.lt_of_lt_of_le hk hz) fun hx => by have := h.ownY k hx; omega]
    exact h.below.block k hk
  · rcases hy k hk with hk | hk
    · exact h.ownY k hk
    · omega
  · rcases hy k hk2 with hk2 | hk2
    · exact h.dis k hk hk2
    · have := h.hs.ds.lt k hk; omega
  · rcases hy gh hk with hk | hk
    · exact h.nh hk
    · omega
  · rcases hy gs hk with hk | hk
    · exact h.sy hk
    · omega
  · obtain ⟨k1, k2, k3, k4⟩ := h.kp g o hg
    have kz := lt_of_heap k1
    exact ⟨(ho.block g kz k3).trans k1, k2, fun hy2 => (hy g hy2).elim k3 fun h => by omega, k4⟩

/-- Behind a call on the program's disk, or on what keeps its state. -/
theorem TH.prog {w' : World} {X' : Nat → Prop} {d' : Dk} {has' : Int × Int} (h : TH K w X Y gd gr gh gs d e has st wr) (ho : Only (fun k => X k ∨ k = gh) wr w') (hx : ∀ k, X' k → X k ∨ wr.heap.size ≤ k) (hh : HS w X' gd gh d' has' w') : TH K w X' Y gd gr gh gs d' e has' st w' := by
  have hs := lt_of_heap h.box
  refine ⟨hh, ⟨h.q.1.same (fun _ h => h) fun k hk => ho.block k (h.q.2 k hk) fun hn => ?_, fun k hk => Nat.lt_of_lt_of_le (h.q.2 k hk) ho.size⟩, h.ownY, fun k hk hk2 => ?_, h.nh, (ho.block gs hs fun hn => ?_).trans h.box, fun hk => ?_, h.sy, h.sh, h.new, h.we, fun g o hg => ?_⟩
  · rcases hn with hn | hn
    · exact h.dis k hn hk
    · exact h.nh (hn ▸ hk)
  · rcases hx k hk with hk | hk
    · exact h.dis k hk hk2
    · have := h.q.2 k hk2; omega
  · rcases hn with hn | hn
    · exact h.sx hn
    · exact h.sh hn
  · rcases hx gs hk with hk | hk
    · exact h.sx hk
    · omega
  · obtain ⟨k1, k2, k3, k4, k5⟩ := h.kp g o hg
    have kz := lt_of_heap k1
    exact ⟨(ho.block g kz fun hn => hn.elim k2 k4).trans k1, fun hx2 => (hx g hx2).elim k2 fun h => by omega, k3, k4, k5⟩

theorem heap_set22 {w : World} {g : Nat} {a b x y : Value} {t : TypeId} (h : w.heap[g]? = some (.cells #[a, b] t)) :
    ((w.setCell ⟨g, 0, none⟩ x).setCell ⟨g, 1, none⟩ y).heap[g]? = some (.cells #[x, y] t) := by
  simp [World.setCell, Array.getElem?_modify, h]

theorem heap_set_ne {w : World} {g j k : Nat} {x : Value} (h : k ≠ g) : (w.setCell ⟨g, j, none⟩ x).heap[k]? = w.heap[k]? := Below.heap_setCell _ _ _ _ h

/-- The law's own state is stored. -/
theorem TH.set (h : TH K w X Y gd gr gh gs d e has st wr) (s : Int × Int) : TH K w X Y gd gr gh gs d e has s ((wr.setCell ⟨gs, 0, none⟩ (.int .i64 s.1)).setCell ⟨gs, 1, none⟩ (.int .i64 s.2)) := by
  have e2 : ∀ k, k ≠ gs → ((wr.setCell ⟨gs, 0, none⟩ (.int .i64 s.1)).setCell ⟨gs, 1, none⟩ (.int .i64 s.2)).heap[k]? = wr.heap[k]? := fun k hk => by
    rw [heap_set_ne hk, heap_set_ne hk]
  refine ⟨⟨(h.hs.ds.set h.new h.sx).set h.new h.sx, (e2 gh fun e => h.sh e.symm).trans h.hs.blk, h.hs.out, h.hs.new⟩, ⟨h.q.1.same (fun _ h => h) fun k hk => e2 k fun e => h.sy (e ▸ hk), fun k hk => by simpa using h.q.2 k hk⟩, h.ownY, h.dis, h.nh, heap_set22 h.box, h.sx, h.sy, h.sh, h.new, h.we, fun g o hg => ⟨(e2 g (h.kp g o hg).2.2.2.2).trans (h.kp g o hg).1, (h.kp g o hg).2⟩⟩

/-- Opened anew. -/
theorem TH.open {w' : World} {g2 : Nat} {has' : Int × Int} (h : TH K w X Y gd gr gh gs d e has st wr) (hb : Below wr.heap.size wr w') (hg : wr.heap.size ≤ g2)
    (hk : w'.heap[g2]? = some (.cells #[.int .i64 has'.1, .int .i64 has'.2, .pointer (some ⟨gd, 0, none⟩)] 53)) : TH K w X Y gd gr g2 gs d e has' st w' := by
  have hz := h.hs.ds.below.size
  have hs := lt_of_heap h.box
  have h2 := h.next hb
  exact ⟨⟨h2.hs.ds, hk, fun hx => by have := h.hs.ds.lt _ hx; omega, by omega⟩, h2.q, h.ownY, h.dis, fun hy => by have := h.q.2 _ hy; omega, h2.box, h.sx, h.sy, by omega, h.new, h.we, fun g o hg => ⟨(h2.kp g o hg).1, (h2.kp g o hg).2.1, (h2.kp g o hg).2.2.1, by have := lt_of_heap (h.kp g o hg).1; omega, (h2.kp g o hg).2.2.2.2⟩⟩

/-- One block more that stays as it is. -/
theorem TH.hold {o : Obj} (h : TH K w X Y gd gr gh gs d e has st wr) (g : Nat) (hg : g = wr.heap.size) : TH (fun k o2 => k = g ∧ o2 = o) w X Y gd gr gh gs d e has st (wr.alloc o) := by
  subst hg
  have h2 := h.next (below_alloc wr o)
  refine ⟨h2.hs, h2.q, h2.ownY, h2.dis, h2.nh, h2.box, h2.sx, h2.sy, h2.sh, h2.new, h2.we, fun g o2 hg => ?_⟩
  obtain ⟨rfl, rfl⟩ := hg
  exact ⟨heap_alloc_new _ _, fun hx => by have := h.hs.ds.lt _ hx; omega, fun hy => by have := h.q.2 _ hy; omega, by have := lt_of_heap h.hs.blk; omega, by have := lt_of_heap h.box; omega⟩

theorem TH.weak (h : TH K w X Y gd gr gh gs d e has st wr) : TH (fun _ _ => False) w X Y gd gr gh gs d e has st wr :=
  ⟨h.hs, h.q, h.ownY, h.dis, h.nh, h.box, h.sx, h.sy, h.sh, h.new, h.we, fun _ _ h => h.elim⟩

theorem TH.kept {g : Nat} {o : Obj} (h : TH (fun k o2 => k = g ∧ o2 = o) w X Y gd gr gh gs d e has st wr) : wr.heap[g]? = some o := (h.kp g o ⟨rfl, rfl⟩).1

/-- What a call on the program's disk leaves. -/
theorem TH.dpost {w' : World} {r : Int × Dk} {x : Ending} (h : TH K w X Y gd gr gh gs d e has st wr) (hp : DPost w X gd wr r x w') : x = .returned (.int .i64 r.1) ∧ ∃ X', TH K w X' Y gd gr gh gs r.2 e has st w' := by
  obtain ⟨h1, ho, X', hx, hd⟩ := hp
  refine ⟨h1, X', h.prog (ho.mono fun _ h => .inl h) hx ⟨hd, (ho.block _ (lt_of_heap h.hs.blk) h.hs.out).trans h.hs.blk, fun hg => ?_, h.hs.new⟩⟩
  rcases hx _ hg with h1 | h1
  · exact h.hs.out h1
  · have := lt_of_heap h.hs.blk; omega

theorem TH.cpost {w' : World} {r : Int × Dk} {x : Ending} (h : TH K w X Y gd gr gh gs d e has st wr) (hw : Well r.2) (hp : CallPost wr Y gr r x w') : x = .returned (.int .i64 r.1) ∧ ∃ Y', TH K w X Y' gd gr gh gs d r.2 has st w' := by
  obtain ⟨h1, ho, hq⟩ := hp
  refine ⟨h1, _, h.ref ho (fun k hk => ?_) ⟨hq, fun k hk => ?_⟩ hw⟩
  · rcases hk with hk | hk
    · exact .inl hk
    · exact .inr hk.1
  · rcases hk with hk | hk
    · exact Nat.lt_of_lt_of_le (h.q.2 k hk) ho.size
    · exact hk.2

/-- What comes in is in nobody's memory. -/
theorem TH.free (h : TH K w X Y gd gr gh gs d e has st wr) {k : Nat} (hk : k < w.heap.size) : k < wr.heap.size ∧ ¬ X k ∧ ¬ Y k :=
  ⟨Nat.lt_of_lt_of_le hk h.below.size, fun hx => by have := h.hs.ds.own k hx; omega, fun hy => by have := h.ownY k hy; omega⟩

theorem TH.refSave (h : TH K w X Y gd gr gh gs d e has st wr) (hu : D.used e.fs ≤ 1000000000) (a b c f r : Int) (e' : Dk) (hs : M.save e (a, b) (c, f) = (r, e')) :
    Calls Tryz.prog 9 #[.pointer (some ⟨gr, 0, none⟩), .agg #[.int .i64 a, .int .i64 b], .agg #[.int .i64 c, .int .i64 f]] wr fun x w' => x = .returned (.int .i64 r) ∧ ∃ Y', TH K w X Y' gd gr gh gs d e' has st w' := by
  have hw := (save_well h.we (a, b) (c, f)).1
  have hp := RefSave_any e Y gr (a, b) (c, f) wr h.q h.we hu
  rw [hs] at hw hp
  exact hp.mono fun x w' ⟨h1, ho, Y', hy, hq⟩ => ⟨h1, Y', h.ref ho hy hq hw⟩

theorem TH.save (h : TH K w X Y gd gr gh gs d e has st wr) (hu : D.used d.fs ≤ 1000000000) (hT : Hid (Tab w)) (c f r : Int) (d' : Dk) (hs : M.save d has (c, f) = (r, d')) :
    Calls Tryz.prog 10 #[.pointer (some ⟨gh, 0, none⟩), .agg #[.int .i64 c, .int .i64 f]] wr fun x w' => x = .returned (.int .i64 r) ∧ ∃ X', TH K w X' Y gd gr gh gs d' e (if r = 0 then (c, f) else has) st w' :=
  (h.hs.save (s := (c, f)) hu hT hs).mono fun x w' ⟨h1, X', hx, hh, ho⟩ => ⟨h1, X', h.prog ho hx hh⟩

theorem TH.stop (h : TH K w X Y gd gr gh gs d e has st wr) (n : Int) (hn : Int64 n) :
    Calls Tryz.prog 11 #[.pointer (some ⟨gd, 0, none⟩), .int .i64 n] wr fun x w' => x = .returned (.tuple #[]) ∧ TH K w X Y gd gr gh gs (D.stop d n) e has st w' :=
  (h.hs.stop n hn).mono fun x w' ⟨h1, hh, ho, _⟩ => ⟨h1, h.prog (ho.mono fun _ h => .inl h) (fun _ h => .inl h) hh⟩

theorem TH.refStop (h : TH K w X Y gd gr gh gs d e has st wr) (n : Int) (hn : Int64 n) :
    Calls Tryz.prog 12 #[.pointer (some ⟨gr, 0, none⟩), .int .i64 n] wr fun x w' => x = .returned (.tuple #[]) ∧ TH K w X Y gd gr gh gs d (D.stop e n) has st w' :=
  (RefStop_any e Y gr n wr h.q.1 (Lib.hid hn)).mono fun x w' ⟨h1, ho, hq, hz⟩ => ⟨h1, h.ref ho (fun _ h => .inl h) ⟨hq, fun k hk => by rw [hz]; exact h.q.2 k hk⟩ (stop_well h.we hn.2)⟩

theorem TH.crash (h : TH K w X Y gd gr gh gs d e has st wr) (ks : List Int) (F : Nat → Prop) (vk : Value) (hv : RepI wr F ks vk) (hF : ∀ k, F k → k < w.heap.size) :
    Calls Tryz.prog 13 #[.pointer (some ⟨gd, 0, none⟩), vk] wr fun x w' => x = .returned (.int .i64 (((D.crash d ks).1 : Nat) : Int)) ∧ ∃ X', TH K w X' Y gd gr gh gs (D.crash d ks).2 e has st w' :=
  (h.hs.crash ks F vk hv fun k hk => ⟨(h.free (hF k hk)).1, (h.free (hF k hk)).2.1⟩).mono fun x w' ⟨h1, X', hx, hh, ho⟩ => ⟨h1, X', h.prog (ho.mono fun _ h => .inl h) hx hh⟩

theorem TH.refCrash (h : TH K w X Y gd gr gh gs d e has st wr) (ks : List Int) (F : Nat → Prop) (vk : Value) (hu : D.used e.fs ≤ 1000000000) (hv : RepI wr F ks vk) (hF : ∀ k, F k → k < w.heap.size) :
    Calls Tryz.prog 14 #[.pointer (some ⟨gr, 0, none⟩), vk] wr fun x w' => x = .returned (.int .i64 ((D.crash e ks).1 : Int)) ∧ TH K w X Y gd gr gh gs d (D.crash e ks).2 has st w' :=
  (RefCrash_any e Y gr ks F vk wr h.q (Lib.hid h.we.1.1) (Lib.hid h.we.1.2.2) (Lib.hid (by omega)) hv fun k hk => ⟨(h.free (hF k hk)).1, (h.free (hF k hk)).2.2⟩).mono fun x w' ⟨h1, ho, hq, hz⟩ => ⟨h1, h.ref ho (fun _ h => .inl h) ⟨hq, fun k hk => by rw [hz]; exact h.q.2 k hk⟩ (crash_well h.we ks).1⟩

theorem TH.on (h : TH K w X Y gd gr gh gs d e has st wr) (hu : D.used d.fs ≤ 1000000000) (hT : Hid (Tab w)) :
    Calls Tryz.prog 20 #[.pointer (some ⟨gd, 0, none⟩)] wr fun x w' => x = .returned (.agg #[.int .i64 (newest d.fs).2.2.1, .int .i64 (newest d.fs).2.2.2]) ∧ Below wr.heap.size wr w' :=
  On_any d X gd wr h.hs.ds.dsk h.hs.ds.well.1.2.1 (by omega) (h.hs.ds.tab hT)

theorem TH.refOn (h : TH K w X Y gd gr gh gs d e has st wr) (hu : D.used e.fs ≤ 1000000000) :
    Calls Tryz.prog 15 #[.pointer (some ⟨gr, 0, none⟩)] wr fun x w' => x = .returned (.tuple #[.int .i64 ((newest e.fs).1 : Int), .int .u64 ((newest e.fs).2.1 : Int), .agg #[.int .i64 (newest e.fs).2.2.1, .int .i64 (newest e.fs).2.2.2]]) ∧ Below wr.heap.size wr w' :=
  RefOn_any e Y gr wr h.q.1 h.q.2 h.we.1.2.1 (by omega)

theorem TH.remove1 (h : TH K w X Y gd gr gh gs d e has st wr) (nm : ByteArray) (hn : nm.size ≤ 9223372036854775807) (g : Nat) (hg : g = wr.heap.size) :
    Calls Tryz.prog 16 #[.pointer (some ⟨gd, 0, none⟩), .slice (some ⟨g, 0, none⟩) 1 1] (wr.alloc (.cells #[.string nm] 9)) fun x w' => x = .returned (.int .i64 (D.remove d [nm]).1) ∧ ∃ X', TH K w X' Y gd gr gh gs (D.remove d [nm]).2 e has st w' := by
  subst hg
  have h2 := h.next (below_alloc wr (.cells #[.string nm] 9))
  exact (DRemove h2.hs.ds [nm] (fun k => k = wr.heap.size) _ (fun s hs => by rw [List.mem_singleton.1 hs]; exact hn) (RepSl.new (ls := [nm]) rfl rfl (by simp)) (fun k hk => ⟨by simp; omega, fun hx => by have := h.hs.ds.lt _ hx; omega⟩)).mono fun x w' hp => h2.dpost hp

theorem TH.refRemove1 (h : TH K w X Y gd gr gh gs d e has st wr) (nm : ByteArray) (g : Nat) (hg : g = wr.heap.size) :
    Calls Tryz.prog 17 #[.pointer (some ⟨gr, 0, none⟩), .slice (some ⟨g, 0, none⟩) 1 1] (wr.alloc (.cells #[.string nm] 9)) fun x w' => x = .returned (.int .i64 (D.remove e [nm]).1) ∧ ∃ Y', TH K w X Y' gd gr gh gs d (D.remove e [nm]).2 has st w' := by
  subst hg
  have h2 := h.next (below_alloc wr (.cells #[.string nm] 9))
  exact (RefRemove_any e Y gr [nm] (fun k => k = wr.heap.size) _ _ h2.q (Lib.hid h2.we.1.1) (RepSl.new (ls := [nm]) rfl rfl (by simp)) (fun k hk => ⟨by simp; omega, fun hy => by have := h.q.2 _ hy; omega⟩)).mono fun x w' hp => h2.cpost (remove_well h2.we [nm]).1 hp

theorem TH.append1 (h : TH K w X Y gd gr gh gs d e has st wr) (nm : ByteArray) (hn : nm.size ≤ 9223372036854775807) (L : List UInt8) (v : Value) (F : Nat → Prop) (hv : RepB wr F L v) (hF : ∀ k, F k → k < w.heap.size) (hu : D.used d.fs + L.length ≤ 1000000000) (g : Nat) (hg : g = wr.heap.size) :
    Calls Tryz.prog 18 #[.pointer (some ⟨gd, 0, none⟩), .string nm, .slice (some ⟨g, 0, none⟩) 1 1] (wr.alloc (.cells #[v] 35)) fun x w' => x = .returned (.int .i64 (D.append d nm [L]).1) ∧ ∃ X', TH K w X' Y gd gr gh gs (D.append d nm [L]).2 e has st w' := by
  subst hg
  have h2 := h.next (below_alloc wr (.cells #[v] 35))
  exact (DAppend h2.hs.ds nm [L] (fun k => F k ∨ k = wr.heap.size) _ hn (RepBl.one hv rfl fun k hk => (h.free (hF k hk)).1) (fun k hk => ⟨by
      rcases hk with hk | hk
      · exact (h2.free (hF k hk)).1
      · rw [hk]; simp, fun hx => by
      rcases hk with hk | hk
      · exact (h.free (hF k hk)).2.1 hx
      · have := h.hs.ds.lt _ hx; omega⟩) (by simp; omega)).mono fun x w' hp => h2.dpost hp

theorem TH.refAppend1 (h : TH K w X Y gd gr gh gs d e has st wr) (nm : ByteArray) (hn : nm.size ≤ 9223372036854775807) (L : List UInt8) (v : Value) (F : Nat → Prop) (hv : RepB wr F L v) (hF : ∀ k, F k → k < w.heap.size) (hu : D.used e.fs + L.length ≤ 1000000000) (g : Nat) (hg : g = wr.heap.size) :
    Calls Tryz.prog 19 #[.pointer (some ⟨gr, 0, none⟩), .string nm, .slice (some ⟨g, 0, none⟩) 1 1] (wr.alloc (.cells #[v] 35)) fun x w' => x = .returned (.int .i64 (D.append e nm [L]).1) ∧ ∃ Y', TH K w X Y' gd gr gh gs d (D.append e nm [L]).2 has st w' := by
  subst hg
  have h2 := h.next (below_alloc wr (.cells #[v] 35))
  exact (RefAppend_any e Y gr nm [L] (fun k => F k ∨ k = wr.heap.size) _ _ h2.q (Lib.hid h2.we.1.1) hn (RepBl.one hv rfl fun k hk => (h.free (hF k hk)).1) (fun k hk => ⟨by
      rcases hk with hk | hk
      · exact (h2.free (hF k hk)).1
      · rw [hk]; simp, fun hx => by
      rcases hk with hk | hk
      · exact (h.free (hF k hk)).2.2 hx
      · have := h.q.2 _ hx; omega⟩) (Lib.hid (by simp; omega))).mono fun x w' hp => h2.cpost (append_well h2.we nm [L]).1 hp

theorem rem_two (x : Int) : -2 < x.tmod 2 ∧ x.tmod 2 < 2 ∧ ((x.tmod 2 + 2).tmod 2 = 0 ∨ (x.tmod 2 + 2).tmod 2 = 1) := by
  have h1 := Int.tmod_lt_of_pos x (b := 2) (by omega)
  have h2 : -2 < x.tmod 2 := by
    rcases Int.lt_or_le x 0 with h | h
    · have h3 := Int.tmod_lt_of_pos (-x) (b := 2) (by omega)
      rw [Int.neg_tmod] at h3
      omega
    · have := Int.tmod_nonneg 2 h
      omega
  refine ⟨h2, h1, ?_⟩
  have h3 : 0 ≤ (x.tmod 2 + 2).tmod 2 := Int.tmod_nonneg 2 (by omega)
  have h4 := Int.tmod_lt_of_pos (x.tmod 2 + 2) (b := 2) (by omega)
  omega

/-- The state at the head of the loop over acts; so many bytes may be on the disks. -/
def RunH (w0 : World) (gd gr gs m : Nat) (hv : Value) (wr : World) : Prop :=
  ∃ X Y gh d st, hv = .pointer (some ⟨gh, 0, none⟩) ∧ TH (fun _ _ => False) w0 X Y gd gr gh gs d d st st wr ∧ D.used d.fs ≤ m
end
end Go.Proofs.YtgakcaobalfpjaaGreatDoor.M

/- Part: LawHSaves. -/
namespace Go.Proofs.YtgakcaobalfpjaaGreatDoor.M
open Go.RowKit Go.Maps
open D (Fl Dk)

theorem refFresh {w : World} {n : Int} {g : Nat} (h : w.heap[g]? = some (.cells #[.int .i64 n, .slice none 0 0, .bool false, .int .i64 0] 80)) : DskIn w (fun k => k = g) g (fresh n) :=
  ⟨⟨.slice none 0 0, [], ⟨0, h, (fun h => by simp [fresh] at h)⟩, rfl, World.ownsRow_nil _ _ _ _, (fun p hp => by cases hp), (by simp [blocksOf, Value.ownBlock]), (fun k hk => by simpa [blocksOf, Value.ownBlock] using hk)⟩, fun k hk => by rw [hk]; exact lt_of_heap h⟩

theorem newest_fresh (n : Int) : (newest (fresh n).fs).2.2 = (0, -1) := by
  show (newest ([] : List Fl)).2.2 = _
  decide +kernel

/-- Six cells of a block. -/
theorem six_cells {w : World} {g : Nat} {x0 x1 x2 x3 x4 x5 : Value} {t : TypeId} (h : w.heap[g]? = some (.cells #[x0, x1, x2, x3, x4, x5] t)) :
    w.cell? ⟨g, 0, none⟩ = some x0 ∧ w.cell? ⟨g, 1, none⟩ = some x1 ∧ w.cell? ⟨g, 2, none⟩ = some x2 ∧ w.cell? ⟨g, 3, none⟩ = some x3 ∧ w.cell? ⟨g, 4, none⟩ = some x4 ∧ w.cell? ⟨g, 5, none⟩ = some x5 ∧ g < w.heap.size := by
  have hc := fun j => cell_of_row w g j _ t _ h
  exact ⟨hc 0, hc 1, hc 2, hc 3, hc 4, hc 5, lt_of_heap h⟩

set_option maxRecDepth 20000 in
set_option maxHeartbeats 12800000 in
theorem HardSaves_any (room : Int) (acts : List Ac4) (F : Nat → Prop) (v : Value) (w : World) (hr : Int64 room) (hv : RepAs4 w F acts v) (hF : ∀ k, F k → k < w.heap.size) (hT : Hid (Tab w)) :
    Calls Tryz.prog 3 #[.int .i64 room, v] w fun e w' => e = .returned (.bool true) ∧ Below w.heap.size w w' := by
  obtain ⟨sa, sc, rfl, hsl⟩ := hv.slice
  have HV := Lib.hid hv
  have HF := Lib.hid hF
  clear hv hF
  by_cases hbig : room < 0 ∨ 60 < acts.length
  · have HA : Hid (∀ wx : World, Below w.heap.size w wx → Calls Tryz.prog 6 #[] wx fun e w' => e = .returned (.bool true) ∧ Below w.heap.size w w') := Lib.hid fun wx hb =>
      (awake4_any wx (Lib.hid (hT.out.next hb))).mono fun e w' h => ⟨h.1, hb.trans (h.2.mono hb.size)⟩
    rcases (show room < 0 ∨ (¬ room < 0 ∧ 60 < (acts.length : Int)) by omega) with q | ⟨q, q2⟩
    all_goals
      clear hbig
      go_enter Tryz.func3, Tryz.ntmps3
      go_wp2_with fail
      refine (HA.out w (Below.refl _ _)).mono ?_
      rintro e w0 ⟨rfl, hb0⟩
      go_wp2_with fail
      refine (HA.out w0 hb0).mono ?_
      rintro e w1 ⟨rfl, hb1⟩
      go_wp2_with fail
      go_ret
      exact ⟨rfl, hb1⟩
  · have q1 : ¬ room < 0 := by omega
    have q2 : decide ((60 : Int) < (acts.length : Int)) = false := by simp; omega
    have H60 : Hid (acts.length ≤ 60) := Lib.hid (by omega)
    have HR : Hid (0 ≤ room ∧ room ≤ 9223372036854775807) := Lib.hid ⟨by omega, hr.2⟩
    clear hbig hr
    go_enter Tryz.func3, Tryz.ntmps3
    go_wp2_with fail
    refine (awake4_any w hT).mono ?_
    rintro e w0 ⟨rfl, hb0⟩
    have HB0 := Lib.hid hb0
    have HT0 : Hid (Tab w0) := Lib.hid (hT.out.next hb0)
    clear hb0
    go_wp2_with fail
    refine (made_any room w0 HR.out.1 HR.out.2).mono ?_
    rintro e w1 ⟨gd, gr, X1, rfl, hd1, hgr, hgx, hgk⟩
    have H1 : Hid (DS w0 X1 gd (fresh room) w1) := Lib.hid hd1
    have HGR : Hid (w0.heap.size ≤ gr ∧ ¬ X1 gr) := Lib.hid ⟨hgr, hgx⟩
    have HGK := Lib.hid hgk
    clear hd1 hgr hgx hgk
    go_wp2_with fail
    refine (Open_any (fresh room) X1 gd w1 H1.out.dsk H1.out.well.1.2.1 (by show 0 ≤ _; omega) (H1.out.tab HT0)).mono ?_
    rintro e w2 ⟨gh, rfl, hb2, hg2, hk2⟩
    rw [newest_fresh] at hk2
    have H2 : Hid (HS w0 X1 gd gh (fresh room) (0, -1) w2) := Lib.hid ⟨H1.out.next hb2, hk2, fun h => by have := H1.out.lt _ h; omega, Nat.le_trans H1.out.below.size hg2⟩
    have HGK2 := Lib.hid (old_below HGK.out hb2)
    have HNE : Hid (gr ≠ gh) := Lib.hid (by have := lt_of_heap HGK.out; omega)
    clear hb2 hg2 hk2
    go_wp2_with fail
    obtain ⟨W, hW⟩ : ∃ W, W = w2.alloc (.cells #[.int .i64 0, .int .i64 (-1)] 33) := ⟨_, rfl⟩
    obtain ⟨gs, hgs⟩ : ∃ gs, gs = w2.heap.size := ⟨_, rfl⟩
    have HRUN : Hid (RunH w0 gd gr gs 0 (.pointer (some ⟨gh, 0, none⟩)) W) := Lib.hid (by
      have hb := below_alloc w2 (.cells #[.int .i64 0, .int .i64 (-1)] 33)
      have k1 := lt_of_heap HGK2.out
      have k2 := lt_of_heap H2.out.blk
      have k3 := H2.out.ds.below.size
      rw [hW, hgs]
      refine ⟨X1, fun k => k = gr, gh, fresh room, (0, -1), rfl, ⟨H2.out.next hb, refFresh (old_below HGK2.out hb), fun k hk => by rw [hk]; exact HGR.out.1, fun k hk hk2 => HGR.out.2 (hk2 ▸ hk), fun h => HNE.out h.symm, heap_alloc_new _ _, fun hx => by have := H2.out.ds.lt _ hx; omega, fun hy => by omega, by omega, by omega, H2.out.ds.well, fun _ _ h => h.elim⟩, Nat.le_refl _⟩)
    rw [← hW, ← hgs]
    clear hW hgs HGK HGK2 H1 H2 HNE HGR
    go_loopg [7, 8, 10, 11, 12, 13, 14, 15, 16] acts.length (fun g hv _ i _ _ _ _ _ _ wr => ∃ k : Nat, i = .int .i64 (k : Int) ∧ k + g = acts.length ∧ RunH w0 gd gr gs (2000 * k) hv wr)
    case atStart => exact ⟨0, rfl, by omega, HRUN.out⟩
    case round =>
      obtain ⟨k, rfl, hkg, X, Y, gh, d, st, rfl, hth, hus⟩ := hrel
      obtain ⟨go, hgo⟩ : ∃ go : Nat, go = gk := ⟨_, rfl⟩
      subst hgo
      have HTH := Lib.hid hth
      have HBW : Hid (Below w.heap.size w wr) := Lib.hid (HB0.out.trans (hth.below.mono HB0.out.size))
      have HUS : Hid (D.used d.fs ≤ 2000 * k ∧ D.used d.fs ≤ 120000) := Lib.hid ⟨hus, by have := H60.out; omega⟩
      clear hth hus
      by_cases hlt : k < acts.length
      · have hkk : (k : Int) < (acts.length : Int) := by omega
        have ha2 : RepAs4 w F acts (.slice sa acts.length sc) := HV.out
        obtain ⟨b, off, rfl, hFb, x0, x1, x2, x3, x4, x5, c0, c1, c2, c3, c4, c5, hra⟩ := ha2.elem k hlt
        have hbz0 := HF.out b hFb
        have hbz : b < wr.heap.size := Nat.lt_of_lt_of_le hbz0 HBW.out.size
        have hc : ∀ j, wr.cell? ⟨b, j, none⟩ = w.cell? ⟨b, j, none⟩ := fun j => HBW.out.cell (p := ⟨b, j, none⟩) hbz0
        rw [← hc] at c0 c1 c2 c3 c4 c5
        obtain ⟨ka, kc, hx4, hkl⟩ := hra.2.2.2.2.2.2.1.slice
        obtain ⟨ba, bc, hx5, hbl⟩ := hra.2.2.2.2.2.2.2.slice
        have hx0 := hra.1
        have hx1 := hra.2.2.1
        have hx2 := hra.2.2.2.1
        have hx3 := hra.2.2.2.2.1
        have HRA := Lib.hid hra
        obtain ⟨a, ha⟩ : ∃ a, a = acts[k] := ⟨_, rfl⟩
        rw [← ha] at HRA hx0 hx1 hx2 hx3 hx4 hx5 hkl hbl
        obtain ⟨kd, ⟨s1, s2⟩, an, ks, bb⟩ := a
        simp only at hx0 hx1 hx2 hx3 hx4 hx5 hkl hbl
        subst hx0 hx1 hx2 hx3 hx4 hx5
        obtain ⟨n4, hn4⟩ : ∃ n4, n4 = ks.length := ⟨_, rfl⟩
        obtain ⟨n5, hn5⟩ : ∃ n5, n5 = bb.length := ⟨_, rfl⟩
        have HN4 := Lib.hid hn4
        have HN5 := Lib.hid hn5
        rw [← hn4] at HRA c4 hkl
        rw [← hn5] at HRA c5 hbl
        clear ha2 hra hc ha hn4 hn5 hFb
        obtain ⟨ob, hob⟩ : ∃ ob : Obj, ob = .cells #[.int .i64 kd, .int .i64 s1, .int .i64 s2, .int .i64 an, .slice ka n4 kc, .slice ba n5 bc] 37 := ⟨_, rfl⟩
        obtain ⟨wa, hwa⟩ : ∃ wa, wa = wr.alloc ob := ⟨_, rfl⟩
        obtain ⟨g9, hg9⟩ : ∃ g9, g9 = wr.heap.size := ⟨_, rfl⟩
        have HWA : Hid (wa = wr.alloc (.cells #[.int .i64 kd, .int .i64 s1, .int .i64 s2, .int .i64 an, .slice ka n4 kc, .slice ba n5 bc] 37)) := Lib.hid (by rw [hwa, hob])
        have HG9 := Lib.hid hg9
        have HOB := Lib.hid hob
        have HTA : Hid (TH (fun k o => k = g9 ∧ o = ob) w0 X Y gd gr gh gs d d st st wa) := Lib.hid (by rw [hwa]; exact HTH.out.hold g9 hg9)
        have HCL : Hid (∀ w' : World, w'.heap[g9]? = some ob → w'.cell? ⟨g9, 0, none⟩ = some (.int .i64 kd) ∧ w'.cell? ⟨g9, 1, none⟩ = some (.int .i64 s1) ∧ w'.cell? ⟨g9, 2, none⟩ = some (.int .i64 s2) ∧ w'.cell? ⟨g9, 3, none⟩ = some (.int .i64 an) ∧ w'.cell? ⟨g9, 4, none⟩ = some (.slice ka n4 kc) ∧ w'.cell? ⟨g9, 5, none⟩ = some (.slice ba n5 bc) ∧ g9 < w'.heap.size) := Lib.hid fun w' h => by
          rw [HOB.out] at h
          exact six_cells h
        obtain ⟨e0, e1, e2, e3, e4, e5, ez⟩ := HCL.out wa HTA.out.kept
        clear hwa hg9 hob
        by_cases hb1 : (1000 : Int) < (n5 : Int) ∨ (100 : Int) < (n4 : Int)
        · rcases (show (1000 : Int) < (n5 : Int) ∨ (¬ (1000 : Int) < (n5 : Int) ∧ (100 : Int) < (n4 : Int)) by omega) with q3 | ⟨q3, q4⟩
          all_goals
            clear hb1
            go_wp2_with fail
            rw [← HG9.out, ← HWA.out]
            go_wp2_with fail
            go_ret
            exact ⟨rfl, HB0.out.trans (HTA.out.below.mono HB0.out.size)⟩
        · have q3 : decide ((1000 : Int) < (n5 : Int)) = false := by simp; omega
          have q4 : decide ((100 : Int) < (n4 : Int)) = false := by simp; omega
          clear hb1
          go_upto_block 2 with fail
          rw [← HG9.out, ← HWA.out]
          go_cut [7, 8, 12, 13] from 48 to 171 (fun hv _ _ _ w' => RunH w0 gd gr gs (2000 * (k + 1)) hv w')
          case first =>
            have HU := HUS.out.2
            obtain ⟨et, ev⟩ := st
            obtain ⟨b0, b1, f0, f1, bz⟩ := block2 HTA.out.box
            rcases (show kd = 0 ∨ kd = 1 ∨ kd = 2 ∨ kd = 3 ∨ (kd ≠ 0 ∧ kd ≠ 1 ∧ kd ≠ 2 ∧ kd ≠ 3) by omega) with q | q | q | q | ⟨k0, k1, k2, k3⟩
            · subst q
              obtain ⟨rd, hrd⟩ : ∃ rd, rd = M.save d (et, ev) (s1, s2) := ⟨_, rfl⟩
              obtain ⟨r, d'⟩ := rd
              have HRD := Lib.hid hrd
              have HUD : Hid (D.used d'.fs ≤ D.used d.fs + 31) := Lib.hid (by
                have := (save_well HTA.out.we (et, ev) (s1, s2)).2
                rw [← hrd] at this
                exact this)
              clear hrd
              go_wp2_with fail
              refine (HTA.out.refSave (by omega) et ev s1 s2 r d' HRD.out.symm).mono ?_
              rintro e w3 ⟨rfl, Y3, h3⟩
              have H3 := Lib.hid h3
              clear e0 e1 e2 e3 e4 e5 ez b0 b1 f0 f1 bz h3
              obtain ⟨e0, e1, e2, e3, e4, e5, ez⟩ := HCL.out w3 H3.out.kept
              go_wp2_with fail
              refine (H3.out.save (by omega) HT0 s1 s2 r d' HRD.out.symm).mono ?_
              rintro e w4 ⟨rfl, X4, h4⟩
              have H4 := Lib.hid h4
              clear e0 e1 e2 e3 e4 e5 ez h4
              obtain ⟨e0, e1, e2, e3, e4, e5, ez⟩ := HCL.out w4 H4.out.kept
              obtain ⟨b0, b1, f0, f1, bz⟩ := block2 H4.out.box
              by_cases hr0 : r = 0
              · subst hr0
                go_wp2_with fail
                go_meet
                case rel => exact ⟨X4, Y3, gh, d', (s1, s2), rfl, (H4.out.set (s1, s2)).weak, by have := HUD.out; have := HUS.out.1; omega⟩
              · have q0 : (r == 0) = false := beq_eq_false_iff_ne.2 hr0
                have H4' : Hid (TH (fun k o => k = g9 ∧ o = ob) w0 X4 Y3 gd gr gh gs d' d' (et, ev) (et, ev) w4) := Lib.hid (by have := H4.out; rw [if_neg hr0] at this; exact this)
                clear H4 hr0
                go_wp2_with fail
                go_meet
                case rel => exact ⟨X4, Y3, gh, d', (et, ev), rfl, H4'.out.weak, by have := HUD.out; have := HUS.out.1; omega⟩
            · subst q
              go_wp2_with fail
              refine (HTA.out.stop an HRA.out.2.2.2.2.2.1).mono ?_
              rintro e w3 ⟨rfl, h3⟩
              have H3 := Lib.hid h3
              clear e0 e1 e2 e3 e4 e5 ez b0 b1 f0 f1 bz h3
              obtain ⟨e0, e1, e2, e3, e4, e5, ez⟩ := HCL.out w3 H3.out.kept
              go_wp2_with fail
              refine (H3.out.refStop an HRA.out.2.2.2.2.2.1).mono ?_
              rintro e w4 ⟨rfl, h4⟩
              have H4 := Lib.hid h4
              clear h4
              go_wp2_with fail
              go_meet
              case rel => exact ⟨X, Y, gh, D.stop d an, (et, ev), rfl, H4.out.weak, by show D.used d.fs ≤ _; have := HUS.out.1; omega⟩
            · subst q
              have HKS : Hid (∀ w' : World, Below w0.heap.size w0 w' → RepI w' F ks (.slice ka n4 kc)) := Lib.hid fun w' hb => HRA.out.2.2.2.2.2.2.1.same (fun _ h => h) fun j hj => ((HB0.out.trans (hb.mono HB0.out.size)).block j (HF.out j hj))
              have HFW : Hid (∀ j, F j → j < w0.heap.size) := Lib.hid fun j hj => Nat.lt_of_lt_of_le (HF.out j hj) HB0.out.size
              go_wp2_with fail
              refine (HTA.out.crash ks F _ (HKS.out wa HTA.out.below) HFW.out).mono ?_
              rintro e w3 ⟨rfl, X3, h3⟩
              have H3 := Lib.hid h3
              clear e0 e1 e2 e3 e4 e5 ez b0 b1 f0 f1 bz h3
              obtain ⟨e0, e1, e2, e3, e4, e5, ez⟩ := HCL.out w3 H3.out.kept
              go_wp2_with fail
              refine (H3.out.refCrash ks F _ (by omega) (HKS.out w3 H3.out.below) HFW.out).mono ?_
              rintro e w4 ⟨rfl, h4⟩
              have hu4 : D.used (D.crash d ks).2.fs ≤ D.used d.fs := (crash_well HTA.out.we ks).2
              obtain ⟨d4, hd4⟩ : ∃ d4, d4 = (D.crash d ks).2 := ⟨_, rfl⟩
              rw [← hd4] at h4 hu4
              have H4 := Lib.hid h4
              clear e0 e1 e2 e3 e4 e5 ez h4 hd4
              go_wp2_with fail
              refine (Open_any d4 X3 gd w4 H4.out.hs.ds.dsk H4.out.hs.ds.well.1.2.1 (by omega) (H4.out.hs.ds.tab HT0)).mono ?_
              rintro e w5 ⟨g2, rfl, hb5, hg5, hk5⟩
              have H5 := Lib.hid (H4.out.open (has' := (newest d4.fs).2.2) hb5 hg5 hk5)
              clear hb5 hg5 hk5
              go_wp2_with fail
              refine (H5.out.refOn (by omega)).mono ?_
              rintro e w6 ⟨rfl, hb6⟩
              have H6 := Lib.hid (H5.out.next hb6)
              clear hb6
              obtain ⟨b0, b1, f0, f1, bz⟩ := block2 H6.out.box
              go_wp2_with fail
              go_meet
              case rel => exact ⟨X3, Y, g2, d4, (newest d4.fs).2.2, rfl, (H6.out.set (newest d4.fs).2.2).weak, by have := HUS.out.1; omega⟩
            · subst q
              have HBB : Hid (∀ w' : World, Below w0.heap.size w0 w' → RepB w' F bb (.slice ba n5 bc)) := Lib.hid fun w' hb => HRA.out.2.2.2.2.2.2.2.same (fun _ h => h) fun j hj => ((HB0.out.trans (hb.mono HB0.out.size)).block j (HF.out j hj))
              have HFW : Hid (∀ j, F j → j < w0.heap.size) := Lib.hid fun j hj => Nat.lt_of_lt_of_le (HF.out j hj) HB0.out.size
              have HBL : Hid (bb.length ≤ 1000) := Lib.hid (by have := HN5.out; have := of_decide_eq_false q3; omega)
              obtain ⟨y, hy⟩ : ∃ y, y = an.tmod 2 := ⟨_, rfl⟩
              obtain ⟨t1, t2, t3⟩ := rem_two an
              rw [← hy] at t1 t2 t3
              have hy' := hy.symm
              clear hy
              rcases t3 with t3 | t3
              · have HNS : Hid (nmH0.size ≤ 9223372036854775807) := Lib.hid (by decide)
                go_wp2_with fail
                obtain ⟨W, hW⟩ : ∃ W, W = wa.alloc (.cells #[.string nmH0, .string nmH1] 9) := ⟨_, rfl⟩
                have HTW : Hid (TH (fun k o => k = g9 ∧ o = ob) w0 X Y gd gr gh gs d d (et, ev) (et, ev) W) := Lib.hid (by rw [hW]; exact HTA.out.next (below_alloc _ _))
                have hWz : wa.heap.size + 1 = W.heap.size := by rw [hW]; simp
                have hrm := HTW.out.remove1 nmH0 HNS.out _ hWz
                rw [hW] at hrm
                refine hrm.mono ?_
                clear hrm
                rintro e w3 ⟨rfl, X3, h3⟩
                have hu3 := (remove_well HTA.out.we [nmH0]).2
                obtain ⟨d3, hd3⟩ : ∃ d3, d3 = D.remove d [nmH0] := ⟨_, rfl⟩
                rw [← hd3] at h3 hu3 ⊢
                have HD3 := Lib.hid hd3
                have HU3 := Lib.hid hu3
                have H3 := Lib.hid h3
                clear e0 e1 e2 e3 e4 e5 ez b0 b1 f0 f1 bz h3 hd3 hu3 hW hWz
                go_wp2_with fail
                refine (H3.out.refRemove1 nmH0 _ rfl).mono ?_
                rintro e w4 ⟨rfl, Y4, h4⟩
                rw [← HD3.out] at h4 ⊢
                have H4 := Lib.hid h4
                clear h4
                obtain ⟨e0, e1, e2, e3, e4, e5, ez⟩ := HCL.out w4 H4.out.kept
                go_wp2_with fail
                refine (H4.out.append1 nmH0 HNS.out bb _ F (HBB.out w4 H4.out.below) HFW.out (by have := HU3.out; have := HBL.out; omega) _ rfl).mono ?_
                rintro e w5 ⟨rfl, X5, h5⟩
                have hu5 := (append_well H4.out.we nmH0 [bb]).2
                obtain ⟨d5, hd5⟩ : ∃ d5, d5 = D.append d3.2 nmH0 [bb] := ⟨_, rfl⟩
                rw [← hd5] at h5 hu5 ⊢
                have HD5 := Lib.hid hd5
                have HU5 : Hid (D.used d5.2.fs ≤ D.used d.fs + 1000) := Lib.hid (by
                  have := HU3.out
                  have := HBL.out
                  have e : [bb].flatten.length = bb.length := by simp
                  omega)
                have H5 := Lib.hid h5
                clear e0 e1 e2 e3 e4 e5 ez h5 hd5 hu5
                obtain ⟨e0, e1, e2, e3, e4, e5, ez⟩ := HCL.out w5 H5.out.kept
                go_wp2_with fail
                refine (H5.out.refAppend1 nmH0 HNS.out bb _ F (HBB.out w5 H5.out.below) HFW.out (by have := HU3.out; have := HBL.out; omega) _ rfl).mono ?_
                rintro e w6 ⟨rfl, Y6, h6⟩
                rw [← HD5.out] at h6 ⊢
                have H6 := Lib.hid h6
                clear e0 e1 e2 e3 e4 e5 ez h6
                go_wp2_with fail
                go_meet
                case rel => exact ⟨X5, Y6, gh, d5.2, (et, ev), rfl, H6.out.weak, by have := HU5.out; have := HUS.out.1; omega⟩
              · have HNS : Hid (nmH1.size ≤ 9223372036854775807) := Lib.hid (by decide)
                go_wp2_with fail
                obtain ⟨W, hW⟩ : ∃ W, W = wa.alloc (.cells #[.string nmH0, .string nmH1] 9) := ⟨_, rfl⟩
                have HTW : Hid (TH (fun k o => k = g9 ∧ o = ob) w0 X Y gd gr gh gs d d (et, ev) (et, ev) W) := Lib.hid (by rw [hW]; exact HTA.out.next (below_alloc _ _))
                have hWz : wa.heap.size + 1 = W.heap.size := by rw [hW]; simp
                have hrm := HTW.out.remove1 nmH1 HNS.out _ hWz
                rw [hW] at hrm
                refine hrm.mono ?_
                clear hrm
                rintro e w3 ⟨rfl, X3, h3⟩
                have hu3 := (remove_well HTA.out.we [nmH1]).2
                obtain ⟨d3, hd3⟩ : ∃ d3, d3 = D.remove d [nmH1] := ⟨_, rfl⟩
                rw [← hd3] at h3 hu3 ⊢
                have HD3 := Lib.hid hd3
                have HU3 := Lib.hid hu3
                have H3 := Lib.hid h3
                clear e0 e1 e2 e3 e4 e5 ez b0 b1 f0 f1 bz h3 hd3 hu3 hW hWz
                go_wp2_with fail
                refine (H3.out.refRemove1 nmH1 _ rfl).mono ?_
                rintro e w4 ⟨rfl, Y4, h4⟩
                rw [← HD3.out] at h4 ⊢
                have H4 := Lib.hid h4
                clear h4
                obtain ⟨e0, e1, e2, e3, e4, e5, ez⟩ := HCL.out w4 H4.out.kept
                go_wp2_with fail
                refine (H4.out.append1 nmH1 HNS.out bb _ F (HBB.out w4 H4.out.below) HFW.out (by have := HU3.out; have := HBL.out; omega) _ rfl).mono ?_
                rintro e w5 ⟨rfl, X5, h5⟩
                have hu5 := (append_well H4.out.we nmH1 [bb]).2
                obtain ⟨d5, hd5⟩ : ∃ d5, d5 = D.append d3.2 nmH1 [bb] := ⟨_, rfl⟩
                rw [← hd5] at h5 hu5 ⊢
                have HD5 := Lib.hid hd5
                have HU5 : Hid (D.used d5.2.fs ≤ D.used d.fs + 1000) := Lib.hid (by
                  have := HU3.out
                  have := HBL.out
                  have e : [bb].flatten.length = bb.length := by simp
                  omega)
                have H5 := Lib.hid h5
                clear e0 e1 e2 e3 e4 e5 ez h5 hd5 hu5
                obtain ⟨e0, e1, e2, e3, e4, e5, ez⟩ := HCL.out w5 H5.out.kept
                go_wp2_with fail
                refine (H5.out.refAppend1 nmH1 HNS.out bb _ F (HBB.out w5 H5.out.below) HFW.out (by have := HU3.out; have := HBL.out; omega) _ rfl).mono ?_
                rintro e w6 ⟨rfl, Y6, h6⟩
                rw [← HD5.out] at h6 ⊢
                have H6 := Lib.hid h6
                clear e0 e1 e2 e3 e4 e5 ez h6
                go_wp2_with fail
                go_meet
                case rel => exact ⟨X5, Y6, gh, d5.2, (et, ev), rfl, H6.out.weak, by have := HU5.out; have := HUS.out.1; omega⟩
            · have m0 : (kd == 0) = false := beq_eq_false_iff_ne.2 k0
              have m1 : (kd == 1) = false := beq_eq_false_iff_ne.2 k1
              have m2 : (kd == 2) = false := beq_eq_false_iff_ne.2 k2
              have m3 : (kd == 3) = false := beq_eq_false_iff_ne.2 k3
              clear k0 k1 k2 k3
              go_wp2_with fail
              go_meet
              case rel => exact ⟨X, Y, gh, d, (et, ev), rfl, HTA.out.weak, by have := HUS.out.1; omega⟩
          case rest =>
            obtain ⟨X9, Y9, gh9, d9, ⟨et, ev⟩, rfl, h9, hu9⟩ := hcut
            have H9 := Lib.hid h9
            have HU9 : Hid (D.used d9.fs ≤ 2000 * (k + 1) ∧ D.used d9.fs ≤ 1000000000) := Lib.hid ⟨hu9, by have := H60.out; omega⟩
            clear h9 hu9 e0 e1 e2 e3 e4 e5 ez
            go_wp2_with fail
            refine (H9.out.refOn HU9.out.2).mono ?_
            rintro e w5 ⟨rfl, hb5⟩
            have H5 := Lib.hid (H9.out.next hb5)
            obtain ⟨⟨on1, on2⟩, hon⟩ : ∃ on, on = (newest d9.fs).2.2 := ⟨_, rfl⟩
            rw [← hon]
            have HON := Lib.hid hon
            clear hb5 hon
            go_wp2_with fail
            obtain ⟨W8, hW8⟩ : ∃ W8, W8 = w5.alloc (.cells #[.int .i64 on1, .int .i64 on2] 33) := ⟨_, rfl⟩
            have hb8 : Below w5.heap.size w5 W8 := by rw [hW8]; exact below_alloc _ _
            have hbx8 : W8.heap[w5.heap.size]? = some (.cells #[.int .i64 on1, .int .i64 on2] 33) := by rw [hW8]; exact heap_new _ _ _ rfl
            have H8 := Lib.hid (H5.out.next hb8)
            rw [← hW8]
            obtain ⟨a0, a1, a2, -, -, -, az⟩ := block3 H8.out.hs.blk
            obtain ⟨b0, b1, -, -, bz⟩ := block2 H8.out.box
            obtain ⟨c0, c1, -, -, cz⟩ := block2 hbx8
            have q0 : ∀ w', Below W8.heap.size W8 w' → w'.cell? ⟨w5.heap.size, 0, none⟩ = some (.int .i64 on1) := fun w' hw' => (hw'.cell cz).trans c0
            have q1 : ∀ w', Below W8.heap.size W8 w' → w'.cell? ⟨w5.heap.size, 1, none⟩ = some (.int .i64 on2) := fun w' hw' => (hw'.cell cz).trans c1
            have p0 : ∀ w', Below W8.heap.size W8 w' → w'.cell? ⟨gs, 0, none⟩ = some (.int .i64 et) := fun w' hw' => (hw'.cell bz).trans b0
            have p1 : ∀ w', Below W8.heap.size W8 w' → w'.cell? ⟨gs, 1, none⟩ = some (.int .i64 ev) := fun w' hw' => (hw'.cell bz).trans b1
            have u0 : ∀ w', Below W8.heap.size W8 w' → w'.cell? ⟨gh9, 0, none⟩ = some (.int .i64 et) := fun w' hw' => (hw'.cell az).trans a0
            have u1 : ∀ w', Below W8.heap.size W8 w' → w'.cell? ⟨gh9, 1, none⟩ = some (.int .i64 ev) := fun w' hw' => (hw'.cell az).trans a1
            have v0 : ∀ w' : World, (Op.equalIn 10000 33 (.agg #[.int .i64 et, .int .i64 ev]) (.agg #[.int .i64 et, .int .i64 ev])).run Tryz.prog w' = .ok true w' := fun w' => by rw [eqState_any, decide_eq_true rfl]
            have v1 : ∀ w' : World, (Op.equalIn 10000 33 (.agg #[.int .i64 on1, .int .i64 on2]) (.agg #[.int .i64 on1, .int .i64 on2])).run Tryz.prog w' = .ok true w' := fun w' => by rw [eqState_any, decide_eq_true rfl]
            have hS : Below W8.heap.size W8 W8.drew := (Below.refl _ _).drew
            have HON8 := Lib.hid ((H8.out.next hS).on HU9.out.2 HT0)
            clear a0 a1 a2 b0 b1 c0 c1 hW8 hb8 hbx8
            refine wp_region_held (S := fun w' => Below W8.heap.size W8 w') (by kernel_rfl) ?_
            refine H_take (i := 0) (v := ?_) rfl (by as_aux_lemma => kernel_rfl) (by as_aux_lemma => kernel_rfl) (by as_aux_lemma => kernel_rfl) (fun _ _ _ h => h) (by rfl) hS ?_ ?_
            rotate_left
            · intro w' hw'; go_simp; with_reducible rfl
            go_simp
            refine H_take (i := 1) (v := ?_) rfl (by as_aux_lemma => kernel_rfl) (by as_aux_lemma => kernel_rfl) (by as_aux_lemma => kernel_rfl) (fun _ _ _ h => h) (by rfl) hS ?_ ?_
            rotate_left
            · intro w' hw'; go_simp; with_reducible rfl
            go_simp
            refine H_take (i := 2) (v := ?_) rfl (by as_aux_lemma => kernel_rfl) (by as_aux_lemma => kernel_rfl) (by as_aux_lemma => kernel_rfl) (fun _ _ _ h => h) (by rfl) hS ?_ ?_
            rotate_left
            · intro w' hw'; go_simp; with_reducible rfl
            go_simp
            refine H_take (i := 3) (v := ?_) rfl (by as_aux_lemma => kernel_rfl) (by as_aux_lemma => kernel_rfl) (by as_aux_lemma => kernel_rfl) (fun _ _ _ h => h) (by rfl) hS ?_ ?_
            rotate_left
            · intro w' hw'; go_simp; with_reducible rfl
            go_simp
            refine H_take (i := 4) (v := ?_) rfl (by as_aux_lemma => kernel_rfl) (by as_aux_lemma => kernel_rfl) (by as_aux_lemma => kernel_rfl) (fun _ _ _ h => h) (by rfl) hS ?_ ?_
            rotate_left
            · intro w' hw'; go_simp; with_reducible rfl
            go_simp
            refine H_take (i := 5) (v := ?_) rfl (by as_aux_lemma => kernel_rfl) (by as_aux_lemma => kernel_rfl) (by as_aux_lemma => kernel_rfl) (fun _ _ _ h => h) (by rfl) hS ?_ ?_
            rotate_left
            · intro w' hw'; go_simp; with_reducible rfl
            go_simp
            refine H_take (i := 6) (v := ?_) rfl (by as_aux_lemma => kernel_rfl) (by as_aux_lemma => kernel_rfl) (by as_aux_lemma => kernel_rfl) (fun _ _ _ h => h) (by rfl) hS ?_ ?_
            rotate_left
            · intro w' hw'; go_simp; with_reducible rfl
            go_simp
            refine H_take (i := 7) (v := ?_) rfl (by as_aux_lemma => kernel_rfl) (by as_aux_lemma => kernel_rfl) (by as_aux_lemma => kernel_rfl) (fun _ _ _ h => h) (by rfl) hS ?_ ?_
            rotate_left
            · intro w' hw'; go_simp; with_reducible rfl
            go_simp
            refine H_take (i := 9) (v := ?_) rfl (by as_aux_lemma => kernel_rfl) (by as_aux_lemma => kernel_rfl) (by as_aux_lemma => kernel_rfl) (fun _ _ _ h => h) (by rfl) hS ?_ ?_
            rotate_left
            · intro w' hw'; go_simp; with_reducible rfl
            go_simp
            refine H_one (i := 8) (by as_aux_lemma => kernel_rfl) rfl (by rfl) ?_
            go_simp
            refine HON8.out.mono ?_
            rintro e w10 ⟨rfl, hb10⟩
            rw [← HON.out]
            have hS2 : Below W8.heap.size W8 w10 := hS.trans (hb10.mono hS.size)
            have H10 := Lib.hid (H8.out.next hS2)
            clear hb10
            refine ⟨hS2, ?_⟩
            go_simp
            refine H_take (i := 10) (v := ?_) rfl (by as_aux_lemma => kernel_rfl) (by as_aux_lemma => kernel_rfl) (by as_aux_lemma => kernel_rfl) (fun _ _ _ h => h) (by rfl) hS2 ?_ ?_
            rotate_left
            · intro w' hw'; go_simp; with_reducible rfl
            go_simp
            refine H_take (i := 11) (v := ?_) rfl (by as_aux_lemma => kernel_rfl) (by as_aux_lemma => kernel_rfl) (by as_aux_lemma => kernel_rfl) (fun _ _ _ h => h) (by rfl) hS2 ?_ ?_
            rotate_left
            · intro w' hw'; go_simp; with_reducible rfl
            go_simp
            refine wpAnyH_done (by as_aux_lemma => kernel_rfl) ?_ _
            clear q0 q1 p0 p1 u0 u1 v0 v1 hS hS2 az bz cz
            go_wp2_with fail
            go_roundg (go - 1)
            case measure => omega
            case rel => exact ⟨k + 1, by go_num, by omega, X9, Y9, gh9, d9, (et, ev), rfl, H10.out, HU9.out.1⟩
      · have hkk : ¬ (k : Int) < (acts.length : Int) := by omega
        clear hlt
        go_wp2_with fail
        go_ret
        exact ⟨rfl, HBW.out⟩
end Go.Proofs.YtgakcaobalfpjaaGreatDoor.M

/- Part: TabLaid. -/
namespace Go.Proofs.YtgakcaobalfpjaaGreatDoor.M
open Go.RowKit Go.ChangeShapes Go.WideShapes Go.ChangeAt

theorem gTab : Tryz.prog.globalNamed "echelon/sum.nibbles" = some 0 := by kernel_rfl
theorem gTabType : (Tryz.prog.globals[0]?).map (·.type) = some 237 := by kernel_rfl
theorem cellsTab : Tryz.prog.cellsOf 237 = 16 := by kernel_rfl
theorem cellsU32 : Tryz.prog.cellsOf 140 = 1 := by kernel_rfl

theorem tabTable {W : World} (h : laidMetH Tryz.prog [("echelon/sum.nibbles", Rows.laid_echelon_sum_nibbles)] W) : Lib.TabIs Tryz.prog W "echelon/sum.nibbles" .u32 [0, 274646895, 549293790, 820201905, 1098587580, 1361435347, 1640403810, 1905808397, 2197175160, 2460548119, 2722870694, 2987750089, 3280807620, 3553878443, 3811616794, 4084100981] :=
  Lib.tabIs_of_head (rest := []) gTab gTabType Tryz.underlying237 Tryz.underlying140 cellsU32 cellsTab h

theorem tab_of {W : World} (h : laidMetH Tryz.prog [("echelon/sum.nibbles", Rows.laid_echelon_sum_nibbles)] W) : Tab W := by
  have hc : ∀ k, k < 16 → W.cell? ⟨0, k, none⟩ = some (.int .u32 (nibT.getD k 0 : Nat)) := fun k hk => by
    have := (tabTable h).cell gTab k hk
    rw [this]
    rcases (show k = 0 ∨ k = 1 ∨ k = 2 ∨ k = 3 ∨ k = 4 ∨ k = 5 ∨ k = 6 ∨ k = 7 ∨ k = 8 ∨ k = 9 ∨ k = 10 ∨ k = 11 ∨ k = 12 ∨ k = 13 ∨ k = 14 ∨ k = 15 by omega) with h | h | h | h | h | h | h | h | h | h | h | h | h | h | h | h
    all_goals (subst h; rfl)
  refine ⟨?_, hc⟩
  have h0 := hc 0 (by omega)
  rcases Nat.lt_or_ge 0 W.heap.size with h1 | h1
  · exact h1
  · unfold World.cell? at h0
    simp [Array.getElem?_eq_none h1] at h0

/-- A world for the witness: the settled one, the table (block 0) holding what its initialiser lays. -/
noncomputable def laidWorld (os : Os) : World :=
  { World.holding Tryz.prog os ⟨#[], #[], []⟩ with heap := (World.holding Tryz.prog os ⟨#[], #[], []⟩).heap.modify 0 fun
      | .cells _ t frozen => .cells #[.int .u32 0, .int .u32 274646895, .int .u32 549293790, .int .u32 820201905, .int .u32 1098587580, .int .u32 1361435347, .int .u32 1640403810, .int .u32 1905808397, .int .u32 2197175160, .int .u32 2460548119, .int .u32 2722870694, .int .u32 2987750089, .int .u32 3280807620, .int .u32 3553878443, .int .u32 3811616794, .int .u32 4084100981] t frozen
      | o => o }
end Go.Proofs.YtgakcaobalfpjaaGreatDoor.M
