/- Both disks, the shelf and a law's own snapshot, through a law's acts. -/
import Derived.Test.YtbcpcopapbgcdaaGreatDoorSW31
import Derived.Test.YtbcpcopapbgcdaaGreatDoorSW33
import Derived.Test.YtbcpcopapbgcdaaGreatDoorSW34
namespace Go.Proofs.YtbcpcopapbgcdaaGreatDoor.M
open Go.RowKit Go.Maps
open D (Fl Dk)

theorem RepB.and {w w' : World} {F G : Nat → Prop} {L M : List UInt8} {v : Value} (h : RepB w F L v) (g : RepB w' G M v) : RepB w (fun i => F i ∧ G i) L v := by
  rcases h with h | ⟨b, off, c, hv, hb, hl, hm, hc⟩
  · exact .inl h
  · by_cases h0 : L.length = 0
    · have hL : L = [] := List.eq_nil_of_length_eq_zero h0
      subst hL
      exact .inl ⟨rfl, _, c, by rw [hv]; rfl, hm, fun h => by cases h⟩
    · rcases g with ⟨-, a, c', hv', -⟩ | ⟨b', off', c', hv', hb', -⟩
      · rw [hv] at hv'
        simp only [Value.slice.injEq] at hv'
        omega
      · rw [hv] at hv'
        have hbb : b = b' := by
          simp only [Value.slice.injEq, Option.some.injEq, Addr.mk.injEq] at hv'
          exact hv'.1.1
        exact .inr ⟨b, off, c, hv, ⟨hb, hbb ▸ hb'⟩, hl, hm, hc⟩

/-- Where a shelf's bytes lie, by its own cells. -/
theorem SS.sat {w wr : World} {X Z : Nat → Prop} {gd gs : Nat} {d : Dk} {top : Sn} (h : SS w X gd gs d top wr) (hz : SAt Z gd gs top wr) :
    SAt (fun k => (k < wr.heap.size ∧ ¬ X k ∧ k ≠ gs) ∧ Z k) gd gs top wr := by
  obtain ⟨cv, bv, h1, h2, h3⟩ := h.blk
  obtain ⟨cv', bv', g1, g2, g3⟩ := hz
  rw [h1] at g1
  simp only [Option.some.injEq, Obj.cells.injEq, Array.mk.injEq, List.cons.injEq, and_true, true_and] at g1
  obtain ⟨rfl, rfl⟩ := g1
  exact ⟨cv, bv, h1, h2.and g2, h3.and g3⟩

/-- What else turns, turns neither the disk's memory nor the shelf's. -/
theorem SS.other {w wr w' : World} {X Z : Nat → Prop} {gd gs : Nat} {d : Dk} {top : Sn} (h : SS w X gd gs d top wr) (hz : SAt (fun k => ¬ Z k) gd gs top wr) (ho : Only Z wr w') (hZ : ∀ k, Z k → w.heap.size ≤ k) (hx : ∀ k, Z k → ¬ X k) (hs : ¬ Z gs) : SS w X gd gs d top w' := by
  obtain ⟨cv, bv, h1, h2, h3⟩ := h.sat hz
  have hz := ho.size
  exact ⟨h.ds.only ho hZ hx, ⟨cv, bv, (ho.block _ h.lt hs).trans h1, h2.same (fun k hk => ⟨by omega, hk.1.2⟩) fun k hk => ho.block k hk.1.1 hk.2, h3.same (fun k hk => ⟨by omega, hk.1.2⟩) fun k hk => ho.block k hk.1.1 hk.2⟩, h.out, h.new, h.len⟩

theorem SAt.weak {w : World} {F G : Nat → Prop} {gd gs : Nat} {top : Sn} (h : SAt F gd gs top w) (hF : ∀ k, F k → G k) : SAt G gd gs top w := by
  obtain ⟨cv, bv, h1, h2, h3⟩ := h
  exact ⟨cv, bv, h1, h2.weak hF, h3.weak hF⟩

/-- The law's memory from one call to the next. -/
structure Stp (X Y : Nat → Prop) (gs : Nat) (wr : World) (X' Y' : Nat → Prop) (gs' : Nat) (w' : World) : Prop where
  size : wr.heap.size ≤ w'.heap.size
  x : ∀ i, X' i → X i ∨ wr.heap.size ≤ i
  y : ∀ i, Y' i → Y i ∨ wr.heap.size ≤ i
  g : gs' = gs ∨ wr.heap.size ≤ gs'
  fr : ∀ i, i < wr.heap.size → ¬ X i → ¬ Y i → i ≠ gs → w'.heap[i]? = wr.heap[i]?

/-- A block that no call turns. -/
def Kp (X Y : Nat → Prop) (gs : Nat) (g : Nat) (o : Obj) (wr : World) : Prop := wr.heap[g]? = some o ∧ ¬ X g ∧ ¬ Y g ∧ g ≠ gs

theorem Kp.step {X Y X' Y' : Nat → Prop} {gs gs' g : Nat} {o : Obj} {wr w' : World} (h : Kp X Y gs g o wr) (s : Stp X Y gs wr X' Y' gs' w') : Kp X' Y' gs' g o w' := by
  obtain ⟨h1, h2, h3, h4⟩ := h
  have hl := lt_of_heap h1
  refine ⟨(s.fr g hl h2 h3 h4).trans h1, fun hx => ?_, fun hy => ?_, fun e => ?_⟩
  · rcases s.x g hx with h | h
    · exact h2 h
    · omega
  · rcases s.y g hy with h | h
    · exact h3 h
    · omega
  · rcases s.g with h | h
    · omega
    · omega

theorem Stp.rep {X Y X' Y' : Nat → Prop} {gs gs' gl : Nat} {wr w' : World} (s : Stp X Y gs wr X' Y' gs' w') (hgl : gl < wr.heap.size) {L : List UInt8} {v : Value} (h : RepB wr (fun i => i < wr.heap.size ∧ ¬ X i ∧ ¬ Y i ∧ i ≠ gs ∧ i ≠ gl) L v) :
    RepB w' (fun i => i < w'.heap.size ∧ ¬ X' i ∧ ¬ Y' i ∧ i ≠ gs' ∧ i ≠ gl) L v :=
  h.same (fun i hi => ⟨Nat.lt_of_lt_of_le hi.1 s.size, fun hx => by
    rcases s.x i hx with h | h
    · exact hi.2.1 h
    · omega, fun hy => by
    rcases s.y i hy with h | h
    · exact hi.2.2.1 h
    · omega, by rcases s.g with h | h <;> omega, hi.2.2.2.2⟩) fun i hi => s.fr i hi.1 hi.2.1 hi.2.2.1 hi.2.2.2.1

/-- Both disks, the shelf and the law's own snapshot. -/
structure AS (w0 : World) (gd gr gs gl : Nat) (X Y : Nat → Prop) (d e : Dk) (top lv : Sn) (wr : World) : Prop where
  s : SS w0 X gd gs d top wr
  q : QS w0 Y gr e wr
  xy : ∀ i, X i → ¬ Y i
  ys : ¬ Y gs
  z : SAt (fun i => ¬ Y i ∧ i ≠ gl) gd gs top wr
  l0 : w0.heap.size ≤ gl
  lx : ¬ X gl
  ly : ¬ Y gl
  ls : gl ≠ gs
  l : ∃ p m q n, wr.heap[gl]? = some (.cells #[.int .i64 lv.idx, .int .i64 lv.term, .slice p lv.conf.length m, .slice q lv.body.length n] 53) ∧
    RepB wr (fun i => i < wr.heap.size ∧ ¬ X i ∧ ¬ Y i ∧ i ≠ gs ∧ i ≠ gl) lv.conf (.slice p lv.conf.length m) ∧ RepB wr (fun i => i < wr.heap.size ∧ ¬ X i ∧ ¬ Y i ∧ i ≠ gs ∧ i ≠ gl) lv.body (.slice q lv.body.length n)

section
variable {w0 : World} {gd gr gs gl : Nat} {X Y : Nat → Prop} {d e : Dk} {top lv : Sn} {wr : World} (h : AS w0 gd gr gs gl X Y d e top lv wr)
include h

theorem AS.gl_lt : gl < wr.heap.size := by
  obtain ⟨p, m, q, n, h1, -⟩ := h.l
  exact lt_of_heap h1

/-- The law's own snapshot behind a step. -/
theorem AS.lnext {X' Y' : Nat → Prop} {gs' : Nat} {w' : World} (s : Stp X Y gs wr X' Y' gs' w') : ¬ X' gl ∧ ¬ Y' gl ∧ gl ≠ gs' ∧
    ∃ p m q n, w'.heap[gl]? = some (.cells #[.int .i64 lv.idx, .int .i64 lv.term, .slice p lv.conf.length m, .slice q lv.body.length n] 53) ∧
      RepB w' (fun i => i < w'.heap.size ∧ ¬ X' i ∧ ¬ Y' i ∧ i ≠ gs' ∧ i ≠ gl) lv.conf (.slice p lv.conf.length m) ∧ RepB w' (fun i => i < w'.heap.size ∧ ¬ X' i ∧ ¬ Y' i ∧ i ≠ gs' ∧ i ≠ gl) lv.body (.slice q lv.body.length n) := by
  obtain ⟨p, m, q, n, h1, h2, h3⟩ := h.l
  have hk : Kp X Y gs gl _ wr := ⟨h1, h.lx, h.ly, h.ls⟩
  obtain ⟨k1, k2, k3, k4⟩ := hk.step s
  exact ⟨k2, k3, k4, p, m, q, n, k1, s.rep h.gl_lt h2, s.rep h.gl_lt h3⟩

/-- What is new alone. -/
theorem AS.next {w' : World} (hb : Below wr.heap.size wr w') : AS w0 gd gr gs gl X Y d e top lv w' ∧ Stp X Y gs wr X Y gs w' := by
  have s : Stp X Y gs wr X Y gs w' := ⟨hb.size, fun _ h => .inl h, fun _ h => .inl h, .inl rfl, fun i hi _ _ _ => hb.block i hi⟩
  obtain ⟨l1, l2, l3, l4⟩ := h.lnext s
  obtain ⟨cv, bv, z1, z2, z3⟩ := h.s.sat h.z
  refine ⟨⟨h.s.next hb, h.q.next hb, h.xy, h.ys, ⟨cv, bv, old_below z1 hb, ?_, ?_⟩, h.l0, l1, l2, l3, l4⟩, s⟩
  · exact z2.same (fun i hi => hi.2) fun i hi => hb.block i hi.1.1
  · exact z3.same (fun i hi => hi.2) fun i hi => hb.block i hi.1.1

/-- A call on the document's disk. -/
theorem AS.qcall {r : Int × Dk} {ex : Ending} {w' : World} (hp : QPost w0 Y gr wr r ex w') : ∃ Y', AS w0 gd gr gs gl X Y' d r.2 top lv w' ∧ Stp X Y gs wr X Y' gs w' := by
  obtain ⟨-, ho, Y', hy, hq⟩ := hp
  have s : Stp X Y gs wr X Y' gs w' := ⟨ho.size, fun _ h => .inl h, hy, .inl rfl, fun i hi _ h2 _ => ho.block i hi h2⟩
  obtain ⟨l1, l2, l3, l4⟩ := h.lnext s
  have hz := ho.size
  have hXl := h.s.ds.lt
  have hgs := h.s.lt
  obtain ⟨cv, bv, z1, z2, z3⟩ := h.s.sat h.z
  have hY' : ∀ i, i < wr.heap.size → ¬ Y i → ¬ Y' i := fun i h1 h2 h3 => by
    rcases hy i h3 with h | h
    · exact h2 h
    · omega
  refine ⟨Y', ⟨h.s.other (h.z.weak fun _ h => h.1) ho h.q.own (fun i hy hx => h.xy i hx hy) h.ys, hq, fun i hx => hY' i (hXl i hx) (h.xy i hx), hY' gs hgs h.ys, ⟨cv, bv, (ho.block _ hgs h.ys).trans z1, ?_, ?_⟩, h.l0, l1, l2, l3, l4⟩, s⟩
  · exact z2.same (fun i hi => ⟨hY' i hi.1.1 hi.2.1, hi.2.2⟩) fun i hi => ho.block i hi.1.1 hi.2.1
  · exact z3.same (fun i hi => ⟨hY' i hi.1.1 hi.2.1, hi.2.2⟩) fun i hi => ho.block i hi.1.1 hi.2.1

/-- A call on the shelf. -/
theorem AS.scall {r : Int × Dk} {top' : Sn} {ex : Ending} {w' : World} (hp : ShPost2 w0 X gd gs wr r top' ex w') : ∃ X', AS w0 gd gr gs gl X' Y r.2 e top' lv w' ∧ Stp X Y gs wr X' Y gs w' := by
  obtain ⟨-, X', hx, hs, ho, hc⟩ := hp
  have s : Stp X Y gs wr X' Y gs w' := ⟨ho.size, hx, fun _ h => .inl h, .inl rfl, fun i hi h1 _ h3 => ho.block i hi (by rintro (h | h); exact h1 h; exact h3 h)⟩
  obtain ⟨l1, l2, l3, l4⟩ := h.lnext s
  have hYl := h.q.lt
  have hgl := h.gl_lt
  refine ⟨X', ⟨hs, h.q.only ho (fun k hk => ?_) (fun k hk hy => ?_), fun i hi hy => ?_, h.ys, ?_, h.l0, l1, l2, l3, l4⟩, s⟩
  · rcases hk with hk | rfl
    · exact h.s.ds.own k hk
    · exact h.s.new
  · rcases hk with hk | rfl
    · exact h.xy k hk hy
    · exact h.ys hy
  · rcases hx i hi with h1 | h1
    · exact h.xy i h1 hy
    · have := hYl i hy; omega
  · rcases hc with hc | hc
    · obtain ⟨cv, bv, g1, g2, g3⟩ := hs.blk
      obtain ⟨cv', bv', z1, z2, z3⟩ := h.z
      have e1 := (hc.block _ h.s.lt h.s.out).trans z1
      rw [g1] at e1
      simp only [Option.some.injEq, Obj.cells.injEq, Array.mk.injEq, List.cons.injEq, and_true, true_and] at e1
      obtain ⟨-, -, rfl, rfl⟩ := e1
      exact ⟨cv, bv, g1, (g2.and z2).weak fun _ h => h.2, (g3.and z3).weak fun _ h => h.2⟩
    · exact hc.weak fun i hi => ⟨fun hy => by have := hYl i hy; omega, by omega⟩

/-- A call on the program's disk. -/
theorem AS.dcall {r : Int × Dk} {ex : Ending} {w' : World} (hp : DPost w0 X gd wr r ex w') : ∃ X', AS w0 gd gr gs gl X' Y r.2 e top lv w' ∧ Stp X Y gs wr X' Y gs w' := by
  obtain ⟨h1, ho, X', hx, hd⟩ := hp
  exact h.scall (ex := ex) (r := r) ⟨h1, X', hx, h.s.only ho hx hd, ho.mono fun _ h => .inl h, .inl ho⟩

/-- Another shelf, over the same disk. -/
theorem AS.open {gs' : Nat} {t : Sn} {w' : World} (hs : SS w0 X gd gs' d t w') (hb : Below wr.heap.size wr w') (hg : wr.heap.size ≤ gs') (hz : SAt (fun k => wr.heap.size ≤ k) gd gs' t w') : AS w0 gd gr gs' gl X Y d e t lv w' ∧ Stp X Y gs wr X Y gs' w' := by
  have s : Stp X Y gs wr X Y gs' w' := ⟨hb.size, fun _ h => .inl h, fun _ h => .inl h, .inr hg, fun i hi _ _ _ => hb.block i hi⟩
  obtain ⟨l1, l2, l3, l4⟩ := h.lnext s
  have hYl := h.q.lt
  have hgl := h.gl_lt
  exact ⟨⟨hs, h.q.next hb, h.xy, fun hy => by have := hYl _ hy; omega, hz.weak fun i hi => ⟨fun hy => by have := hYl i hy; omega, by omega⟩, h.l0, l1, l2, l3, l4⟩, s⟩

/-- Another snapshot in the law's own variable. -/
theorem AS.lset {y : Sn} {p q : Option Addr} {m n : Nat} (hc : RepB wr (fun i => i < wr.heap.size ∧ ¬ X i ∧ ¬ Y i ∧ i ≠ gs ∧ i ≠ gl) y.conf (.slice p y.conf.length m)) (hb : RepB wr (fun i => i < wr.heap.size ∧ ¬ X i ∧ ¬ Y i ∧ i ≠ gs ∧ i ≠ gl) y.body (.slice q y.body.length n))
    {w' : World} (hw : w' = (((wr.setCell ⟨gl, 0, none⟩ (.int .i64 y.idx)).setCell ⟨gl, 1, none⟩ (.int .i64 y.term)).setCell ⟨gl, 2, none⟩ (.slice p y.conf.length m)).setCell ⟨gl, 3, none⟩ (.slice q y.body.length n)) :
    AS w0 gd gr gs gl X Y d e top y w' ∧ ∀ g o, g ≠ gl → Kp X Y gs g o wr → Kp X Y gs g o w' := by
  have ho : Only (fun k => k = gl) wr w' := by
    rw [hw]
    exact ((((Only.refl (fun k => k = gl) wr).set (.inl rfl) _).set (.inl rfl) _).set (.inl rfl) _).set (.inl rfl) _
  have hz := ho.size
  obtain ⟨p', m', q', n', h4, -, -⟩ := h.l
  obtain ⟨cv, bv, z1, z2, z3⟩ := h.s.sat h.z
  refine ⟨⟨h.s.other (h.z.weak fun _ h => h.2) ho (fun k hk => by rw [hk]; exact h.l0) (fun k hk => by rw [hk]; exact h.lx) (fun e => h.ls e.symm), h.q.only ho (fun k hk => by rw [hk]; exact h.l0) (fun k hk => by rw [hk]; exact h.ly), h.xy, h.ys, ⟨cv, bv, (ho.block _ h.s.lt fun e => h.ls e.symm).trans z1, ?_, ?_⟩, h.l0, h.lx, h.ly, h.ls, p, m, q, n, ?_, ?_, ?_⟩, fun g o hg hk => ⟨(ho.block g (lt_of_heap hk.1) hg).trans hk.1, hk.2⟩⟩
  · exact z2.same (fun i hi => hi.2) fun i hi => ho.block i hi.1.1 hi.2.2
  · exact z3.same (fun i hi => hi.2) fun i hi => ho.block i hi.1.1 hi.2.2
  · rw [hw]; exact heap_fourS h4
  · exact hc.same (fun i hi => ⟨by omega, hi.2⟩) fun i hi => ho.block i hi.1 hi.2.2.2.2
  · exact hb.same (fun i hi => ⟨by omega, hi.2⟩) fun i hi => ho.block i hi.1 hi.2.2.2.2

/-- An old block is no call's. -/
theorem AS.old {i : Nat} (hi : i < w0.heap.size) : ¬ X i ∧ ¬ Y i ∧ i ≠ gs ∧ i ≠ gl := by
  have h1 := h.s.new
  have h2 := h.l0
  exact ⟨fun hx => by have := h.s.ds.own i hx; omega, fun hy => by have := h.q.own i hy; omega, by omega, by omega⟩
end

/-- How much a put may lay. -/
theorem putS_used {d : Dk} (h : Well d) (top x : Sn) : D.used (putS d top x).2.fs ≤ D.used d.fs + (snBytes x).length := by
  unfold putS
  split
  · exact Nat.le_add_right _ _
  · unfold writeF
    have h1 := saveF_well h nmNew (snBytes x)
    simp only
    split
    · exact h1.2
    · exact Nat.le_trans (rename_well h1.1 nmNew (snName x.idx)).2 h1.2

theorem removeEach_well : ∀ (l : List ByteArray) {d : Dk}, Well d → Well (removeEach d l).2 ∧ D.used (removeEach d l).2.fs ≤ D.used d.fs
  | [], d, h => ⟨h, Nat.le_refl _⟩
  | s :: l, d, h => by
    have h1 := remove_well h [s]
    unfold removeEach
    simp only
    split
    · exact h1
    · have h2 := removeEach_well l h1.1
      exact ⟨h2.1, Nat.le_trans h2.2 h1.2⟩

theorem cleanS_used {d : Dk} (h : Well d) (t : Int) : D.used (cleanS d t).2.fs ≤ D.used d.fs := by
  have h1 := removeEach_well ((d.fs.map (·.nm)).filter (elder t)) h
  unfold cleanS
  simp only
  split
  · exact h1.2
  · exact Nat.le_trans (dropNew_well h1.1).2 h1.2

section
variable {w : World} {Y : Nat → Prop} {gr : Nat} {d : Dk} {wr : World} (h : QS w Y gr d wr)
include h

theorem QCrash (ks : List Int) (F : Nat → Prop) (vk : Value) (hv : RepI wr F ks vk) (hF : ∀ k, F k → k < wr.heap.size ∧ ¬ Y k) (hu : D.used d.fs ≤ 1099511627776) :
    Calls Tryz.prog 34 #[.pointer (some ⟨gr, 0, none⟩), vk] wr (QPost w Y gr wr ((((D.crash d ks).1 : Nat) : Int), (D.crash d ks).2)) :=
  (RefCrash_any d Y gr ks F vk wr h.dsk (Lib.hid h.well.1.1) (Lib.hid h.well.1.2.2) (Lib.hid hu) hv hF).mono fun _ _ ⟨h1, h2, h3, _⟩ => h.post (crash_well h.well ks).1 ⟨h1, h2, h3.up⟩

theorem QStop (n : Int) (hn : -9223372036854775808 ≤ n ∧ n ≤ 9223372036854775807) :
    Calls Tryz.prog 39 #[.pointer (some ⟨gr, 0, none⟩), .int .i64 n] wr fun e w' => e = .returned (.tuple #[]) ∧ QPost w Y gr wr (0, D.stop d n) (.returned (.int .i64 0)) w' :=
  (RefStop_any d Y gr n wr h.dsk.1 (Lib.hid hn)).mono fun _ _ ⟨h1, h2, h3, _⟩ => ⟨h1, h.post (stop_well h.well hn.2) ⟨rfl, h2, h3.up⟩⟩
end
end Go.Proofs.YtbcpcopapbgcdaaGreatDoor.M
