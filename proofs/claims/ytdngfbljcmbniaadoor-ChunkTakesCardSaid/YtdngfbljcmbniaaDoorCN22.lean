/- A law's two heaps: the program's, and the document's. -/
import Derived.Test.YtdngfbljcmbniaaDoorCN20
import Derived.Test.YtdngfbljcmbniaaDoorCN18
namespace Go.Proofs.YtdngfbljcmbniaaDoor.M
open Go.RowKit Go.Maps

/-- Made behind w; what one has the other doesn't touch. -/
structure ST7 (w : World) (X Y : Nat → Prop) (g gr : Nat) (most : Int) (Lp Lr : List Pc) (wr : World) : Prop where
  hp : HP w w.heap.size X g most Lp wr
  rh : RH Y w.heap.size gr most Lr wr
  ap : ∀ j, Y j → ¬ X j ∧ j ≠ g

theorem RH.lt {Y : Nat → Prop} {z gr : Nat} {most : Int} {L : List Pc} {w : World} (h : RH Y z gr most L w) : ∀ j, Y j → z ≤ j ∧ j < w.heap.size := by
  obtain ⟨_, _, -, -, -, -, h8⟩ := h
  exact h8

theorem RH.own {Y : Nat → Prop} {z gr : Nat} {most : Int} {L : List Pc} {w : World} (h : RH Y z gr most L w) : Y gr := by
  obtain ⟨_, _, -, -, -, h4, -⟩ := h
  exact h4.1

theorem HP.lt {w0 wr : World} {z : Nat} {X : Nat → Prop} {g : Nat} {most : Int} {L : List Pc} (h : HP w0 z X g most L wr) : (∀ j, X j → j < wr.heap.size) ∧ g < wr.heap.size := ⟨h.heap.2.2, h.heap.lt⟩

/-- Other blocks have turned. -/
theorem HP.only {w0 wr w' : World} {z : Nat} {X Y : Nat → Prop} {g : Nat} {most : Int} {L : List Pc} (h : HP w0 z X g most L wr) (ho : Only Y wr w') (hY : ∀ j, Y j → (¬ X j ∧ j ≠ g) ∧ w0.heap.size ≤ j) : HP w0 z X g most L w' :=
  ⟨below_only h.below ho fun j hj => (hY j hj).2, h.base, h.own, ⟨h.heap.1.same (fun _ h => h) (ho.block g h.lt.2 fun e => (hY g e).1.2 rfl) fun j hj hl => ho.block j hl fun e => (hY j e).1.1 hj, h.heap.2.1, fun j hj => Nat.lt_of_lt_of_le (h.heap.2.2 j hj) ho.size⟩, h.inv⟩

theorem ST7.next {w : World} {X Y : Nat → Prop} {g gr : Nat} {most : Int} {Lp Lr : List Pc} {wr w' : World} (h : ST7 w X Y g gr most Lp Lr wr) (hb : Below wr.heap.size wr w') : ST7 w X Y g gr most Lp Lr w' := ⟨h.hp.next hb, h.rh.next hb, h.ap⟩

/-- A block of neither turns. -/
theorem ST7.far {w : World} {X Y : Nat → Prop} {g gr : Nat} {most : Int} {Lp Lr : List Pc} {wr : World} (h : ST7 w X Y g gr most Lp Lr wr) {b j : Nat} (hb : w.heap.size ≤ b) (hX : ¬ X b ∧ b ≠ g) (hY : ¬ Y b) (v : Value) : ST7 w X Y g gr most Lp Lr (wr.setCell ⟨b, j, none⟩ v) :=
  ⟨h.hp.only (Only.one (b := b) (j := j) v) fun k hk => by subst hk; exact ⟨hX, hb⟩, h.rh.same (by rw [World.size_setCell]; exact Nat.le_refl _) fun k hk => Below.heap_setCell _ _ _ _ (by show k ≠ b; exact fun e => hY (e ▸ hk)), h.ap⟩

theorem ST7.drop1 {w : World} {X Y : Nat → Prop} {g gr : Nat} {most : Int} {Lp Lr : List Pc} {wr : World} (h : ST7 w X Y g gr most Lp Lr wr) :
    Calls Tryd.prog 10 #[.pointer (some ⟨g, 0, none⟩)] wr fun e w' => e = .returned (.tuple #[]) ∧ ST7 w (fun _ => False) Y g gr most [] Lr w' := by
  refine (Drop_any X g most Lp wr h.hp.heap.1).mono ?_
  rintro e w' ⟨rfl, ho, hh⟩
  have hgz := h.hp.own.1
  refine ⟨rfl, ⟨below_only h.hp.below ho fun j hj => by rw [hj]; exact hgz, h.hp.base, ⟨hgz, fun k hk => hk.elim⟩, ⟨hh, fun h => h, fun k hk => hk.elim⟩, HInv.nil _⟩, h.rh.same ho.size fun j hj => ho.block j (h.rh.lt j hj).2 (h.ap j hj).2, fun j hj => ⟨fun h => h, (h.ap j hj).2⟩⟩

theorem ST7.drop2 {w : World} {X Y : Nat → Prop} {g gr : Nat} {most : Int} {Lp Lr : List Pc} {wr : World} (h : ST7 w X Y g gr most Lp Lr wr) : ST7 w X (fun j => j = gr) g gr most Lp [] (wr.setCell ⟨gr, 1, none⟩ (.slice none 0 0)) := by
  have hd := h.rh.drop
  have hg := h.rh.own
  exact ⟨h.hp.only hd.2 fun j hj => ⟨h.ap j hj, (h.rh.lt j hj).1⟩, hd.1, fun j hj => by rw [hj]; exact h.ap gr hg⟩

/-- The program's heap takes one piece, which lies in memory made since. -/
theorem ST7.take1 {w : World} {X Y : Nat → Prop} {g gr : Nat} {most : Int} {Lp Lr : List Pc} {wr W : World} (h : ST7 w X Y g gr most Lp Lr wr) (hT : Hid (Tab w)) (hTz : Hid (Tz w)) (hW : Below wr.heap.size wr W) (p : Pc) (F : Nat → Prop) {a : Option Addr} {n c : Nat} (hu : RepB W F p.b (.slice a n c)) (hF : ∀ k, F k → k < W.heap.size ∧ wr.heap.size ≤ k)
    (hb : p.b.length ≤ 1000 ∧ p.tot ≤ 1000 ∧ 0 ≤ p.sum) (hL : Lp.length < 100000) :
    Calls Tryd.prog 11 #[.pointer (some ⟨g, 0, none⟩), .slice (some ⟨W.heap.size, 0, none⟩) 1 1] (W.alloc (.cells #[.int .i64 p.idx, .int .i64 p.term, .int .u32 p.sum, .int .i64 p.tot, .int .i64 p.pos, .slice a n c] 35))
      fun e w' => e = .returned (.tuple #[.bool (wholeB (takeE most Lp p).2), .int .i64 (takeE most Lp p).1]) ∧ Only (fun j => X j ∨ j = g) W w' ∧ ∃ X', ST7 w X' Y g gr most (takeE most Lp p).2 Lr w' ∧ ∀ j, X' j → X j ∨ W.heap.size ≤ j := by
  have hba := below_alloc W (.cells #[.int .i64 p.idx, .int .i64 p.term, .int .u32 p.sum, .int .i64 p.tot, .int .i64 p.pos, .slice a n c] 35)
  have hW1 : Below wr.heap.size wr (W.alloc (.cells #[.int .i64 p.idx, .int .i64 p.term, .int .u32 p.sum, .int .i64 p.tot, .int .i64 p.pos, .slice a n c] 35)) := hW.trans (hba.mono hW.size)
  have hlt := h.hp.lt
  have hz := hW.size
  have hTk := (h.hp.next hW1).Take hT hTz [p] _ _ (one_piece hu fun k hk => (hF k hk).1) (fun k hk => by
    have h9 : k < W.heap.size + 1 ∧ wr.heap.size ≤ k := by
      rcases hk with hk | hk
      · have := hF k hk; omega
      · omega
    exact ⟨by simp; omega, fun hxk => by have := hlt.1 k hxk; omega, fun e => by have := hlt.2; omega⟩) (fun q hq => by rw [List.mem_singleton.1 hq]; exact hb) (by simp; omega)
  refine hTk.mono ?_
  rintro e w' ⟨rfl, -, -, ⟨X', hx', hX'⟩, ho⟩
  rw [takesE_one] at hx' ⊢
  have hX2 : ∀ j, X' j → X j ∨ W.heap.size ≤ j := fun j hj => by
    rcases hX' j hj with h1 | h1
    · exact .inl h1
    · exact .inr (by simp at h1; omega)
  refine ⟨rfl, (Only.of_below hba).thn (fun _ h => .inl h) ho, X', ⟨hx', (h.rh.next hW1).same ho.size fun j hj => ho.block j (Nat.lt_of_lt_of_le (h.rh.lt j hj).2 hW1.size) (by rintro (h1 | h1); exact (h.ap j hj).1 h1; exact (h.ap j hj).2 h1), fun j hj => ⟨fun h9 => ?_, (h.ap j hj).2⟩⟩, hX2⟩
  rcases hX2 j h9 with h1 | h1
  · exact (h.ap j hj).1 h1
  · have := (h.rh.lt j hj).2; omega

/-- What the document's Take leaves of both. -/
theorem ST7.take2 {w : World} {X Y : Nat → Prop} {g gr : Nat} {most : Int} {Lp Lr : List Pc} {wr w' : World} {p : Pc} {e : Ending} (h : ST7 w X Y g gr most Lp Lr wr) (ht : RTPost wr Y w.heap.size gr most Lr p e w') : e = .returned (.int .i64 (takeE most Lr p).1) ∧ ∃ Y', ST7 w X Y' g gr most Lp (takeE most Lr p).2 w' := by
  obtain ⟨rfl, ho, Y', hr, hY'⟩ := ht
  refine ⟨rfl, Y', h.hp.only ho fun j hj => ⟨h.ap j hj, (h.rh.lt j hj).1⟩, hr, fun j hj => ?_⟩
  rcases hY' j hj with h1 | h1
  · exact h.ap j h1
  · have := h.hp.lt
    exact ⟨fun h9 => by have := this.1 j h9; omega, fun e => by have := this.2; omega⟩

theorem take_mem {most : Int} {L : List Pc} {p x : Pc} (h : x ∈ (takeE most L p).2) : x ∈ L ∨ (x = p ∧ okPc most p = true) := by
  cases hok : okPc most p with
  | false => rw [take_wrong hok] at h; exact .inl h
  | true =>
    rw [take_all hok] at h
    split at h
    · exact .inl h
    · split at h
      · exact .inl (keepL_mem h)
      · unfold layE at h
        split at h
        · cases h
        · rcases List.mem_append.1 h with h | h
          · exact .inl (keepL_mem h)
          · exact .inr ⟨List.mem_singleton.1 h, rfl⟩

theorem take_fine {most : Int} {L : List Pc} {p : Pc} (h : ∀ x ∈ L, Fine7 x) (hp : p.tot ≤ 500) : ∀ x ∈ (takeE most L p).2, Fine7 x := fun x hx => by
  rcases take_mem hx with h1 | ⟨rfl, hok⟩
  · exact h x h1
  · obtain ⟨-, h1, -, -, h2, h3⟩ := okPc_iff.1 hok
    exact ⟨h2, by omega, by omega, h1, by omega⟩

theorem fine_tot {L : List Pc} (h : ∀ x ∈ L, Fine7 x) : totN L ≤ 100000 := by
  cases L with
  | nil => exact Nat.zero_le _
  | cons p L =>
    have := (h p (by simp)).2.2.2
    show p.tot.toNat ≤ 100000
    omega
end Go.Proofs.YtdngfbljcmbniaaDoor.M
