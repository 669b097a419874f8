/- The law DiskActs: the copies of an act's bytes, and what turning them leaves. -/
import Derived.Test.YtgiipkmkmomofaaTold
namespace Go.Proofs.Ytgiipkmkmomofaa.M
open Go.RowKit Go.Maps
open D (Fl Dk)

/-- So many copies are laid by. -/
def CpAt (w5 : World) (ls : List (List UInt8)) (k : Nat) (vb : Value) (wr : World) : Prop :=
  k ≤ ls.length ∧ Below w5.heap.size w5 wr ∧ ∃ us : List Value, us.length = k ∧ wr.ownsRow w5.heap.size 41 1 vb k us ∧ ∀ (i : Nat) (h1 : i < ls.length) (h2 : i < us.length), wr.ownsRow w5.heap.size 5 1 us[i] ls[i].length (ls[i].map byteV)

theorem CpAt.start (w5 : World) (ls : List (List UInt8)) : CpAt w5 ls 0 (.slice none 0 0) w5 :=
  ⟨Nat.zero_le _, Below.refl _ _, [], rfl, World.ownsRow_nil _ _ _ _, fun i _ h => by simp at h⟩

/-- One copy more. -/
theorem CpAt.step {w5 wr w7 w8 : World} {ls : List (List UInt8)} {k : Nat} {vb v v' : Value} {o : Obj} {us : List Value} (h : CpAt w5 ls k vb wr) (hk : k < ls.length) (hown : Own wr ls[k] v w7)
    (hus : us.length = k) (hrow : wr.ownsRow w5.heap.size 41 1 vb k us)
    (heach : ∀ (i : Nat) (h1 : i < ls.length) (h2 : i < us.length), wr.ownsRow w5.heap.size 5 1 us[i] ls[i].length (ls[i].map byteV))
    (h8 : w8.ownsRow w5.heap.size 41 1 v' (k + 1) (us ++ [v])) (g8 : (w7.alloc o).grownBy w8 vb.ownBlock) : CpAt w5 ls (k + 1) v' w8 := by
  obtain ⟨_, hb, -⟩ := h
  have hb7 : Below w5.heap.size w5 w7 := hb.trans (hown.1.mono hb.size)
  have hb8 : Below w5.heap.size w5 w8 := (hb7.alloc hb7.size o).grown g8 (by have := hb7.size; simp; omega) (fun j hj => (hrow.lt j hj).1)
  have hoth : ∀ j, j < w7.heap.size → vb.ownBlock ≠ some j → w8.heap[j]? = w7.heap[j]? := fun j hj h1 => by
    rw [g8.block j (by simp; omega) (fun e => h1 e.symm), Below.heap_alloc _ _ _ hj]
  refine ⟨by omega, hb8, us ++ [v], by simp [hus], h8, fun i h1 h2 => ?_⟩
  by_cases hi : i < us.length
  · rw [List.getElem_append_left hi]
    refine ownsRow_same (heach i h1 hi) fun j hj => ?_
    have hjl := ((heach i h1 hi).lt j hj).2
    rw [hoth j (by have := hown.1.size; omega) (rows_apart (heach i h1 hi) hrow (by decide) hj), hown.1.block j hjl]
  · have : i = k := by simp at h2; omega
    subst this
    rw [List.getElem_append_right (by omega)]
    simp only [hus, Nat.sub_self, List.getElem_cons_zero]
    have ho := hown.2
    refine ⟨ho.1, ?_⟩
    rcases ho.2 with h3 | ⟨g, cap, cur, hv, hg, hcur, h4⟩
    · exact .inl h3
    · refine .inr ⟨g, cap, cur, hv, Nat.le_trans hb.size hg, ?_, h4⟩
      have hg7 := (Array.getElem?_eq_some_iff.1 hcur).1
      rw [hoth g hg7 (fun e => by have := (hrow.lt g e).2; omega)]
      exact hcur

/-- All copies, as one slice of byte slices. -/
theorem CpAt.rep {w5 wr : World} {ls : List (List UInt8)} {vb : Value} (h : CpAt w5 ls ls.length vb wr) : RepBl wr (fun b => w5.heap.size ≤ b ∧ b < wr.heap.size) ls vb := by
  obtain ⟨-, -, us, hus, hrow, heach⟩ := h
  have hlt := hrow.lt
  have hrow' := hrow
  rcases hrow.2 with ⟨h1, h2⟩ | ⟨g, cap, cur, hv, hg, hcur, hn, hm, -⟩
  · exact .inl ⟨List.length_eq_zero_iff.1 h2, by rw [h1]; exact Bare.nil⟩
  · subst hv
    refine .inr ⟨g, 0, cap, rfl, ⟨hg, (hlt g rfl).2⟩, hn, by unfold maxLen at hm; exact hm, fun i hi => ⟨us[i]'(by omega), ?_, RepB.of_own (heach i hi (by omega))⟩⟩
    rw [Nat.zero_add, hrow'.cellAt i (by omega), List.getElem?_eq_getElem (by omega)]

/-- The copies' bytes, each of them some byte, in blocks of S. -/
def BcAt (S : Nat → Prop) (ls : List (List UInt8)) (us : List Value) (wr : World) : Prop :=
  us.length = ls.length ∧ ∀ (i : Nat) (h1 : i < us.length) (h2 : i < ls.length), ∃ a c, us[i] = .slice a ls[i].length c ∧ ∀ j, j < ls[i].length → ∃ g, a = some ⟨g, 0, none⟩ ∧ S g ∧ g < wr.heap.size ∧ ∃ b : UInt8, wr.cell? ⟨g, j, none⟩ = some (.int .u8 (b.toNat : Int)) ∧ wr.frozen? ⟨g, j, none⟩ = false

theorem BcAt.same {S T : Nat → Prop} {ls : List (List UInt8)} {us : List Value} {w w' : World} (h : BcAt S ls us w) (hST : ∀ k, S k → T k) (hs : ∀ k, S k → w'.heap[k]? = w.heap[k]?) (hz : w.heap.size ≤ w'.heap.size) : BcAt T ls us w' :=
  ⟨h.1, fun i h1 h2 => by
    obtain ⟨a, c, hu, hb⟩ := h.2 i h1 h2
    refine ⟨a, c, hu, fun j hj => ?_⟩
    obtain ⟨g, ha, hS, hg, b, hc, hf⟩ := hb j hj
    have e := hs g hS
    exact ⟨g, ha, hST g hS, by omega, b, (World.cell?_of_block (a := ⟨g, j, none⟩) e).trans hc, (World.frozen?_of_block (a := ⟨g, j, none⟩) e).trans hf⟩⟩

theorem BcAt.set {S : Nat → Prop} {ls : List (List UInt8)} {us : List Value} {w : World} (h : BcAt S ls us w) {g j : Nat} (b : UInt8) {u : Value} (hc : w.cell? ⟨g, j, none⟩ = some u) : BcAt S ls us (w.setCell ⟨g, j, none⟩ (.int .u8 (b.toNat : Int))) :=
  ⟨h.1, fun i h1 h2 => by
    obtain ⟨a, c, hu, hb⟩ := h.2 i h1 h2
    refine ⟨a, c, hu, fun m hm => ?_⟩
    obtain ⟨g2, ha, hS, hg, b2, hc2, hf⟩ := hb m hm
    refine ⟨g2, ha, hS, by simpa using hg, ?_⟩
    by_cases e : (⟨g, j, none⟩ : Addr) = ⟨g2, m, none⟩
    · rw [← e]
      exact ⟨b, World.cell?_setCell_same _ _ _ hc, by rw [World.frozen?_setCell, e]; exact hf⟩
    · exact ⟨b2, (World.cell?_setCell_other _ _ _ _ e).trans hc2, by rw [World.frozen?_setCell]; exact hf⟩⟩

theorem CpAt.bytes {w5 wr : World} {ls : List (List UInt8)} {vb : Value} (h : CpAt w5 ls ls.length vb wr) :
    ∃ us, wr.ownsRow w5.heap.size 41 1 vb ls.length us ∧ BcAt (fun k => w5.heap.size ≤ k ∧ k < wr.heap.size ∧ vb.ownBlock ≠ some k) ls us wr := by
  obtain ⟨-, -, us, hus, hrow, heach⟩ := h
  refine ⟨us, hrow, hus, fun i h1 h2 => ?_⟩
  have he := heach i h2 h1
  obtain ⟨a, c, hu⟩ := owned_slice he
  refine ⟨a, c, hu, fun j hj => ?_⟩
  rcases he.2 with ⟨h3, h4⟩ | ⟨g, cap, cur, hv, hg, hcur, hn, hm, -⟩
  · omega
  · rw [hu] at hv he
    cases hv
    refine ⟨g, rfl, ⟨hg, (he.lt g rfl).2, rows_apart he hrow (by decide) rfl⟩, (he.lt g rfl).2, ls[i][j], ?_, he.frozenAt j⟩
    rw [he.cellAt j (by omega)]
    simp [hj, byteV]

theorem only_hold {w wr w' : World} {S : Nat → Prop} (h : Below w.heap.size w wr) (ho : Only S wr w') (hS : ∀ k, S k → w.heap.size ≤ k) : Below w.heap.size w w' :=
  ⟨ho.os.trans h.os, ho.tape.trans h.tape, ho.output.trans h.output, Nat.le_trans h.size ho.size, fun k hk => by
    rw [ho.block k (Nat.lt_of_lt_of_le hk h.size) fun hn => by have := hS k hn; omega]
    exact h.block k hk⟩

theorem PDskIn.hold {w w' : World} {X Z : Nat → Prop} {g : Nat} {d : Dk} (h : PDskIn w Z g d) (ho : Only X w w') (hd : ∀ k, X k → ¬ Z k) : PDskIn w' Z g d :=
  ⟨h.1.same (fun _ h => h) fun k hk => ho.block k (h.2 k hk) fun hx => hd k hx hk, fun k hk => Nat.lt_of_lt_of_le (h.2 k hk) ho.size⟩

/-- Both disks stay where only blocks of S turn, which neither has. -/
theorem TD.hold {w wd wr : World} {X Y S : Nat → Prop} {gd gr : Nat} {d e : Dk} (h : TD w X Y gd gr d e wd) (ho : Only S wd wr) (hx : ∀ k, S k → ¬ X k) (hy : ∀ k, S k → ¬ Y k) (hw : ∀ k, S k → w.heap.size ≤ k) : TD w X Y gd gr d e wr :=
  ⟨only_hold h.below ho hw, h.ownX, h.ownY, h.p.hold ho hx, h.q.next ho hy, h.dis, h.wd, h.we⟩

/-- An act on both, from a world behind the one that the disks are held at: the blocks that came between are not theirs. -/
theorem TD.act2 {w w5 w7 w8 : World} {X Y : Nat → Prop} {gd gr : Nat} {d e d' e' : Dk} (h5 : TD w X Y gd gr d e w5) (h7 : TD w X Y gd gr d e w7) (hb : Both w7 X Y gd gr d' e' w8) (h1 : Well d') (h2 : Well e') :
    ∃ X' Y', TD w X' Y' gd gr d' e' w8 ∧ (∀ k, w5.heap.size ≤ k → k < w7.heap.size → ¬ X' k ∧ ¬ Y' k ∧ w8.heap[k]? = w7.heap[k]?) ∧ w7.heap.size ≤ w8.heap.size := by
  obtain ⟨ho, X', Y', hx, hy, hd, hp, hq⟩ := hb
  refine ⟨X', Y', ⟨only_hold h7.below ho fun k hk => ?_, fun k hk => ?_, fun k hk => ?_, hp, hq, hd, h1, h2⟩, fun k hk1 hk2 => ⟨fun hX => ?_, fun hY => ?_, ho.block k hk2 fun hn => ?_⟩, ho.size⟩
  · rcases hk with hk | hk
    · exact h7.ownX k hk
    · exact h7.ownY k hk
  · rcases hx k hk with hk | hk
    · exact h7.ownX k hk
    · have := h7.below.size; omega
  · rcases hy k hk with hk | hk
    · exact h7.ownY k hk
    · have := h7.below.size; omega
  · rcases hx k hX with h | h
    · have := h5.p.2 k h; omega
    · omega
  · rcases hy k hY with h | h
    · have := h5.q.2 k h; omega
    · omega
  · rcases hn with h | h
    · have := h5.p.2 k h; omega
    · have := h5.q.2 k h; omega

/-- The state of the loops that turn the copies. -/
def XoAt (S : Nat → Prop) (w8 : World) (ls : List (List UInt8)) (us : List Value) (wr : World) : Prop := Only S w8 wr ∧ BcAt S ls us wr

theorem XoAt.drew {S : Nat → Prop} {w8 wr : World} {ls : List (List UInt8)} {us : List Value} (h : XoAt S w8 ls us wr) : XoAt S w8 ls us wr.drew := ⟨⟨h.1.os, h.1.tape, h.1.output, h.1.size, h.1.block⟩, h.2⟩

theorem XoAt.set {S : Nat → Prop} {w8 wr : World} {ls : List (List UInt8)} {us : List Value} (h : XoAt S w8 ls us wr) {g j : Nat} (hg : S g) (b : UInt8) {u : Value} (hc : wr.cell? ⟨g, j, none⟩ = some u) : XoAt S w8 ls us (wr.setCell ⟨g, j, none⟩ (.int .u8 (b.toNat : Int))) :=
  ⟨h.1.set (.inl hg) _, h.2.set b hc⟩

theorem flat_at (ls : List (List UInt8)) (i : Nat) (h : i < ls.length) : ls[i].length ≤ ls.flatten.length := by
  induction ls generalizing i with
  | nil => simp at h
  | cons a r ih =>
    rw [List.flatten_cons, List.length_append]
    cases i with
    | zero => simp
    | succ i => have := ih i (by simpa using h); simp only [List.getElem_cons_succ]; omega

theorem len_size (l : List (List UInt8)) : l.length ≤ bsize l := by
  unfold bsize
  induction l with
  | nil => simp
  | cons a r ih => simp only [List.length_cons, List.map_cons, List.sum_cons]; omega

theorem RunAt.step2 {w w' : World} {gd gr : Nat} {d0 : Dk} {acts : List Ac} {k : Nat} {X Y : Nat → Prop} (hk : k < acts.length) (h1 : ∀ (i : Nat) (h : i < acts.length), i < k → asize acts[i] ≤ 2000) (h2 : D.used (runA d0 acts k).fs ≤ D.used d0.fs + 2000 * k)
    (hw : Well (runA d0 acts k)) (hn : Int64 acts[k].n) (hs : asize acts[k] ≤ 2000) (h4 : TD w X Y gd gr (act (runA d0 acts k) acts[k]).2 (act (runA d0 acts k) acts[k]).2 w') : RunAt w gd gr d0 acts (k + 1) w' := by
  obtain ⟨-, hu⟩ := act_well hw acts[k] hn
  have hf := asize_flat acts[k]
  refine ⟨by omega, fun i hi hik => ?_, ?_, X, Y, ?_⟩
  · rcases Nat.lt_or_ge i k with h5 | h5
    · exact h1 i hi h5
    · have : i = k := by omega
      subst this; exact hs
  · rw [runA_succ d0 acts k hk]
    omega
  · rw [runA_succ d0 acts k hk]
    exact h4
end Go.Proofs.Ytgiipkmkmomofaa.M
