/- Acts, one behind another, on both disks. -/
import Derived.Test.YtgiipkmkmomofaaActDo2
import Derived.Test.YtgiipkmkmomofaaDiskAwake
namespace Go.Proofs.Ytgiipkmkmomofaa.M
open Go.RowKit Go.Maps
open D (Fl Dk)

/-- Both disks, in a law's own memory. -/
structure TD (w : World) (X Y : Nat → Prop) (gd gr : Nat) (d e : Dk) (wr : World) : Prop where
  below : Below w.heap.size w wr
  ownX : ∀ k, X k → w.heap.size ≤ k
  ownY : ∀ k, Y k → w.heap.size ≤ k
  p : PDskIn wr X gd d
  q : DskIn wr Y gr e
  dis : ∀ k, X k → ¬ Y k
  wd : Well d
  we : Well e

theorem DskIn.below {w w' : World} {Y : Nat → Prop} {gr : Nat} {e : Dk} (h : DskIn w Y gr e) (hb : Below w.heap.size w w') : DskIn w' Y gr e := h.next (X := fun _ => False) (Only.of_below hb) fun _ h => h.elim

theorem TD.next {w wr w' : World} {X Y : Nat → Prop} {gd gr : Nat} {d e : Dk} (h : TD w X Y gd gr d e wr) (hb : Below wr.heap.size wr w') : TD w X Y gd gr d e w' :=
  ⟨h.below.trans (hb.mono h.below.size), h.ownX, h.ownY, h.p.next hb, h.q.below hb, h.dis, h.wd, h.we⟩

theorem TD.ds {w wr : World} {X Y : Nat → Prop} {gd gr : Nat} {d e : Dk} (h : TD w X Y gd gr d e wr) : DS w X gd d wr := ⟨h.below, h.ownX, h.p, h.wd⟩

theorem TD.act {w wr w' : World} {X Y : Nat → Prop} {gd gr : Nat} {d e d' e' : Dk} (h : TD w X Y gd gr d e wr) (hb : Both wr X Y gd gr d' e' w') (h1 : Well d') (h2 : Well e') : ∃ X' Y', TD w X' Y' gd gr d' e' w' := by
  obtain ⟨ho, X', Y', hx, hy, hd, hp, hq⟩ := hb
  refine ⟨X', Y', ⟨ho.os.trans h.below.os, ho.tape.trans h.below.tape, ho.output.trans h.below.output, Nat.le_trans h.below.size ho.size, fun k hk => ?_⟩, fun k hk => ?_, fun k hk => ?_, hp, hq, hd, h1, h2⟩
  · rw [ho.block k (Nat.lt_of_lt_of_le hk h.below.size) fun hn => ?_]
    · exact h.below.block k hk
    · rcases hn with hn | hn
      · have := h.ownX k hn; omega
      · have := h.ownY k hn; omega
  · rcases hx k hk with hk | hk
    · exact h.ownX k hk
    · exact Nat.le_trans h.below.size hk
  · rcases hy k hk with hk | hk
    · exact h.ownY k hk
    · exact Nat.le_trans h.below.size hk

/-- The document's new disk. -/
theorem newRef (w : World) (n : Int) (g : Nat) (hg : g = w.heap.size) : DskIn (w.alloc (.cells #[.int .i64 n, .slice none 0 0, .bool false, .int .i64 0] 34)) (fun k => k = g) g (fresh n) := by
  subst hg
  refine ⟨⟨.slice none 0 0, [], ⟨0, heap_alloc_new _ _, (fun h => by simp [fresh] at h)⟩, rfl, World.ownsRow_nil _ _ _ _, (fun p hp => by cases hp), (by simp [blocksOf, Value.ownBlock]), (fun k hk => by simpa [blocksOf, Value.ownBlock] using hk)⟩, fun k hk => by rw [hk]; simp⟩

/-- A disk behind so many acts. -/
def runA (d : Dk) (acts : List Ac) (k : Nat) : Dk := (acts.take k).foldl (fun d a => (act d a).2) d

theorem runA_succ (d : Dk) (acts : List Ac) (k : Nat) (h : k < acts.length) : runA d acts (k + 1) = (act (runA d acts k) acts[k]).2 := by
  unfold runA
  rw [List.take_succ_eq_append_getElem h, List.foldl_append]
  rfl

theorem flat_size (l : List (List UInt8)) : l.flatten.length ≤ bsize l := by
  unfold bsize
  induction l with
  | nil => simp
  | cons a r ih => simp only [List.flatten_cons, List.length_append, List.map_cons, List.sum_cons]; omega

theorem asize_flat (a : Ac) : a.bs.flatten.length ≤ asize a := by
  have := flat_size a.bs
  unfold asize
  omega

/-- The state at the head of a loop over acts. -/
def RunAt (w : World) (gd gr : Nat) (d0 : Dk) (acts : List Ac) (k : Nat) (wr : World) : Prop :=
  k ≤ acts.length ∧ (∀ (i : Nat) (h : i < acts.length), i < k → asize acts[i] ≤ 2000) ∧ D.used (runA d0 acts k).fs ≤ D.used d0.fs + 2000 * k ∧ ∃ X Y, TD w X Y gd gr (runA d0 acts k) (runA d0 acts k) wr

theorem RunAt.start {w wr : World} {gd gr : Nat} {d0 : Dk} {acts : List Ac} {X Y : Nat → Prop} (h : TD w X Y gd gr d0 d0 wr) : RunAt w gd gr d0 acts 0 wr := ⟨Nat.zero_le _, fun _ _ h => by omega, Nat.le_refl _, X, Y, h⟩

theorem RunAt.step {w wr w' : World} {gd gr : Nat} {d0 : Dk} {acts : List Ac} {k : Nat} {X Y : Nat → Prop} (hk : k < acts.length) (h1 : ∀ (i : Nat) (h : i < acts.length), i < k → asize acts[i] ≤ 2000) (h2 : D.used (runA d0 acts k).fs ≤ D.used d0.fs + 2000 * k)
    (h3 : TD w X Y gd gr (runA d0 acts k) (runA d0 acts k) wr) (hn : Int64 acts[k].n) (hs : asize acts[k] ≤ 2000) (hb : Both wr X Y gd gr (act (runA d0 acts k) acts[k]).2 (act (runA d0 acts k) acts[k]).2 w') : RunAt w gd gr d0 acts (k + 1) w' := by
  obtain ⟨hw, hu⟩ := act_well h3.wd acts[k] hn
  obtain ⟨X', Y', h4⟩ := h3.act hb hw hw
  have hf := asize_flat acts[k]
  refine ⟨by omega, fun i hi hik => ?_, ?_, X', Y', ?_⟩
  · rcases Nat.lt_or_ge i k with h5 | h5
    · exact h1 i hi h5
    · have : i = k := by omega
      subst this; exact hs
  · rw [runA_succ d0 acts k hk]
    omega
  · rw [runA_succ d0 acts k hk]
    exact h4
theorem rows_apart {w : World} {b1 b2 t1 t2 s1 s2 n1 n2 : Nat} {v1 v2 : Value} {xs ys : List Value} (h1 : w.ownsRow b1 t1 s1 v1 n1 xs) (h2 : w.ownsRow b2 t2 s2 v2 n2 ys) (ht : t1 ≠ t2) {k : Nat} (hk : v1.ownBlock = some k) : v2.ownBlock ≠ some k := fun e => by
  rcases h1.2 with ⟨h, _⟩ | ⟨g, cap, cur, hv, _, hb, _⟩
  · rw [h] at hk; cases hk
  · rcases h2.2 with ⟨h, _⟩ | ⟨g2, cap2, cur2, hv2, _, hb2, _⟩
    · rw [h] at e; cases e
    · rw [hv] at hk
      rw [hv2] at e
      cases hk
      cases e
      rw [hb] at hb2
      simp at hb2
      exact ht hb2.2

theorem RepB.take {w : World} {F : Nat → Prop} {L : List UInt8} {a : Option Addr} {n c : Nat} (h : RepB w F L (.slice a n c)) (m : Nat) (hm : m ≤ L.length) : RepB w F (L.take m) (.slice a m c) := by
  rcases h with ⟨rfl, a', c', hv, hc, hn⟩ | ⟨b, off, c', hv, hb, hl, hmx, hc⟩
  · cases hv
    have : m = 0 := by simpa using hm
    subst this
    exact .inl ⟨rfl, a, c, rfl, hc, hn⟩
  · cases hv
    have e : (L.take m).length = m := by simp; omega
    refine .inr ⟨b, off, c, by rw [e], hb, by omega, hmx, fun i hi => ?_⟩
    rw [hc i (by omega)]
    simp

theorem infoSl : (Try.prog.info? 41).map (fun i => (i.zero, i.size, i.bytes)) = some (some (.slice none 0 0), 1, 24) := by kernel_rfl
theorem infoInt : (Try.prog.info? 3).map (fun i => (i.zero, i.size, i.bytes)) = some (some (.int .i64 0), 1, 8) := by kernel_rfl

/-- What the second loop has laid by. -/
def KpAt (w6 : World) (fs : List Fl) (k : Nat) (y : Int) (vw vs : Value) (wr : World) : Prop :=
  k ≤ fs.length ∧ Below w6.heap.size w6 wr ∧ y = (D.used (fs.take k) : Int) ∧ wr.ownsRow w6.heap.size 3 1 vs k ((fs.take k).map fun f => .int .i64 (f.safe : Int)) ∧
    ∃ us : List Value, us.length = k ∧ wr.ownsRow w6.heap.size 41 1 vw k us ∧ ∀ (i : Nat) (h1 : i < fs.length) (h2 : i < us.length), wr.ownsRow w6.heap.size 5 1 us[i] fs[i].b.length (fs[i].b.map byteV)

theorem KpAt.start (w6 : World) (fs : List Fl) : KpAt w6 fs 0 0 (.slice none 0 0) (.slice none 0 0) w6 :=
  ⟨Nat.zero_le _, Below.refl _ _, by simp [D.used], World.ownsRow_nil _ _ _ _, [], rfl, World.ownsRow_nil _ _ _ _, fun i _ h => by simp at h⟩

/-- One file more. -/
theorem KpAt.step {w6 wr w7 w8 w9 : World} {fs : List Fl} {k : Nat} {y : Int} {vw vs v v' vs' : Value} {o o2 : Obj} (h : KpAt w6 fs k y vw vs wr) (hk : k < fs.length) (hown : Own wr fs[k].b v w7)
    (us : List Value) (hus : us.length = k) (hrow : wr.ownsRow w6.heap.size 41 1 vw k us)
    (heach : ∀ (i : Nat) (h1 : i < fs.length) (h2 : i < us.length), wr.ownsRow w6.heap.size 5 1 us[i] fs[i].b.length (fs[i].b.map byteV))
    (h8 : w8.ownsRow w6.heap.size 41 1 v' (k + 1) (us ++ [v])) (g8 : (w7.alloc o).grownBy w8 vw.ownBlock)
    (h9 : w9.ownsRow w6.heap.size 3 1 vs' (k + 1) (((fs.take k).map fun f => .int .i64 (f.safe : Int)) ++ [.int .i64 (fs[k].safe : Int)])) (g9 : (w8.alloc o2).grownBy w9 vs.ownBlock) :
    KpAt w6 fs (k + 1) (y + (fs[k].b.length : Int)) v' vs' w9 := by
  obtain ⟨_, hb, hy, hs, -⟩ := h
  have hb7 : Below w6.heap.size w6 w7 := hb.trans (hown.1.mono hb.size)
  have hsz7 : w6.heap.size ≤ w7.heap.size := hb7.size
  have hb8 : Below w6.heap.size w6 w8 := (hb7.alloc hsz7 o).grown g8 (by simp; omega) (fun j hj => (hrow.lt j hj).1)
  have hb9 : Below w6.heap.size w6 w9 := (hb8.alloc hb8.size o2).grown g9 (by have := hb8.size; simp; omega) (fun j hj => (hs.lt j hj).1)
  have hoth : ∀ j, j < w7.heap.size → vw.ownBlock ≠ some j → vs.ownBlock ≠ some j → w9.heap[j]? = w7.heap[j]? := fun j hj h1 h2 => by
    have hs8 := g8.size
    have e8 := g8.block j (by simp; omega) (fun e => h1 e.symm)
    have e9 := g9.block j (by simp at hs8 ⊢; omega) (fun e => h2 e.symm)
    rw [e9, Below.heap_alloc _ _ _ (by simp at hs8; omega), e8, Below.heap_alloc _ _ _ hj]
  have hold : ∀ j, j < wr.heap.size → w7.heap[j]? = wr.heap[j]? := fun j hj => hown.1.block j hj
  refine ⟨by omega, hb9, by rw [hy, D.used_take fs k hk]; omega, ?_, us ++ [v], by simp [hus], ?_, fun i h1 h2 => ?_⟩
  · rw [List.take_succ_eq_append_getElem hk, List.map_append]
    exact h9
  · refine ownsRow_same h8 fun j hj => ?_
    have hj8 := (h8.lt j hj).2
    have e9 := g9.block j (by simp; omega) (fun e => ?_)
    · rw [e9, Below.heap_alloc _ _ _ hj8]
    · have hs8 : w8.ownsRow w6.heap.size 3 1 vs k _ := (((hs.kept (grown_of_below hown.1) (by cases vs.ownBlock <;> simp)).alloc o)).kept g8 (by
        cases hvs : vs.ownBlock with
        | none => exact .inl rfl
        | some j2 => exact .inr fun e2 => rows_apart hs hrow (by decide) hvs e2.symm)
      exact rows_apart h8 hs8 (by decide) hj e.symm
  · by_cases hi : i < us.length
    · rw [List.getElem_append_left hi]
      refine ownsRow_same (heach i h1 hi) fun j hj => ?_
      have hjl := ((heach i h1 hi).lt j hj).2
      rw [hoth j (by have := hown.1.size; omega) (rows_apart (heach i h1 hi) hrow (by decide) hj) (rows_apart (heach i h1 hi) hs (by decide) hj), hold j hjl]
    · have : i = k := by simp at h2; omega
      subst this
      rw [List.getElem_append_right (by omega)]
      simp only [hus, Nat.sub_self, List.getElem_cons_zero]
      have ho := hown.2
      refine ⟨ho.1, ?_⟩
      rcases ho.2 with h3 | ⟨g, cap, cur, hv, hg, hcur, h4⟩
      · exact .inl h3
      · refine .inr ⟨g, cap, cur, hv, Nat.le_trans hb.size hg, ?_, h4⟩
        have hg7 := (Array.getElem?_eq_some_iff.1 hcur).1
        rw [hoth g hg7 (fun e => by have := (hrow.lt g e).2; omega) (fun e => by have := (hs.lt g e).2; omega)]
        exact hcur

theorem crash_again (fs : List Fl) (h : ∀ f ∈ fs, f.safe = f.b.length) : D.crashFs fs [] = fs := by
  apply List.ext_getElem?
  intro j
  rw [crashFs_getq]
  cases hj : fs[j]? with
  | none => rfl
  | some f =>
    have := h f (List.mem_of_getElem? hj)
    simp only [Option.map_some, Option.some.injEq, List.getElem?_nil]
    unfold crashG D.stays
    simp only [this, List.take_length]
    cases f
    simp at this ⊢
    exact this.symm

theorem crashFs_at (fs : List Fl) (ks : List Int) (j : Nat) (h : j < fs.length) (h2 : j < (D.crashFs fs ks).length) : (D.crashFs fs ks)[j] = crashG ks[j]? fs[j] := by
  have := crashFs_getq fs ks j
  rw [List.getElem?_eq_getElem h, List.getElem?_eq_getElem h2] at this
  simpa using this

theorem crashFs_len (fs : List Fl) (ks : List Int) : (D.crashFs fs ks).length = fs.length := by
  rw [← crashTo_all, crashTo_length]
end Go.Proofs.Ytgiipkmkmomofaa.M
