/- An act on the program's disk, and on the document's: what both calls leave. -/
import Derived.Test.YtgiipkmkmomofaaDiskLaw
import Derived.Test.YtgiipkmkmomofaaActs
import Derived.Test.YtgiipkmkmomofaaDiskRef8
import Derived.Test.YtgiipkmkmomofaaDiskRef11
import Derived.Test.YtgiipkmkmomofaaDiskRef12
import Derived.Test.YtgiipkmkmomofaaDiskRef13
namespace Go.Proofs.Ytgiipkmkmomofaa.M
open Go.RowKit Go.Maps
open D (Fl Dk)

/-- An act on a disk. -/
def act (d : Dk) (a : Ac) : Int × Dk :=
  if a.kind = 0 then D.append d (a.name 0) a.bs
  else if a.kind = 1 then D.sync d a.names
  else if a.kind = 2 then D.rename d (a.name 0) (a.name 1)
  else if a.kind = 3 then D.remove d a.names
  else if a.kind = 4 then D.cut d (a.name 0) a.n
  else if a.kind = 5 then (((D.crash d a.keep).1 : Nat), (D.crash d a.keep).2)
  else if a.kind = 6 then (0, D.stop d a.n)
  else (0, d)

theorem act_well {d : Dk} (h : Well d) (a : Ac) (hn : Int64 a.n) : Well (act d a).2 ∧ D.used (act d a).2.fs ≤ D.used d.fs + a.bs.flatten.length := by
  unfold act
  split
  · exact append_well h _ _
  · split
    · have := sync_well h a.names; exact ⟨this.1, by omega⟩
    · split
      · have := rename_well h (a.name 0) (a.name 1); exact ⟨this.1, by omega⟩
      · split
        · have := remove_well h a.names; exact ⟨this.1, by omega⟩
        · split
          · have := cut_well h (a.name 0) a.n; exact ⟨this.1, by omega⟩
          · split
            · have := crash_well h a.keep; exact ⟨this.1, by simp only; omega⟩
            · split
              · exact ⟨stop_well h hn.2, Nat.le_add_right _ _⟩
              · exact ⟨h, Nat.le_add_right _ _⟩

/-- What both calls of an act leave. -/
def Both (w : World) (X Y : Nat → Prop) (gd gr : Nat) (d e : Dk) (w' : World) : Prop :=
  Only (fun k => X k ∨ Y k) w w' ∧ ∃ X' Y' : Nat → Prop, (∀ k, X' k → X k ∨ w.heap.size ≤ k) ∧ (∀ k, Y' k → Y k ∨ w.heap.size ≤ k) ∧ (∀ k, X' k → ¬ Y' k) ∧ PDskIn w' X' gd d ∧ DskIn w' Y' gr e

theorem DskIn.next {w w' : World} {X Y : Nat → Prop} {gr : Nat} {e : Dk} (h : DskIn w Y gr e) (ho : Only X w w') (hd : ∀ k, X k → ¬ Y k) : DskIn w' Y gr e :=
  ⟨h.1.same (fun _ h => h) fun k hk => ho.block k (h.2 k hk) fun hx => hd k hx hk, fun k hk => Nat.lt_of_lt_of_le (h.2 k hk) ho.size⟩

theorem both_of {w W w2 w3 w4 : World} {X Y : Nat → Prop} {gd gr : Nat} {r1 r2 : Int × Dk} {e1 : Ending} (hX : ∀ k, X k → k < w.heap.size) (hY : ∀ k, Y k → k < w.heap.size) (hd : ∀ k, X k → ¬ Y k) (h1 : Below w.heap.size w W)
    (hp : PPost W X gd r1 e1 w2) (h3 : Below w2.heap.size w2 w3) (ho : Only Y w3 w4) (hr : Dsk w4 (More Y w3 w4) gr r2.2) : Both w X Y gd gr r1.2 r2.2 w4 := by
  obtain ⟨-, ho2, hd2⟩ := hp
  have s1 := h1.size
  have s2 := ho2.size
  have s3 := h3.size
  have s4 := ho.size
  refine ⟨⟨ho.os.trans (h3.os.trans (ho2.os.trans h1.os)), ho.tape.trans (h3.tape.trans (ho2.tape.trans h1.tape)), ho.output.trans (h3.output.trans (ho2.output.trans h1.output)), by omega, fun k hk hn => ?_⟩,
    More X W w2, More Y w3 w4, fun k hk => ?_, fun k hk => ?_, fun k hk hk2 => ?_, ⟨hd2.same (fun _ h => h) fun k hk => ?_, fun k hk => ?_⟩, hr, fun k hk => ?_⟩
  · rw [ho.block k (by omega) fun h => hn (.inr h), h3.block k (by omega), ho2.block k (by omega) fun h => hn (.inl h), h1.block k hk]
  · rcases hk with hk | hk
    · exact .inl hk
    · exact .inr (by omega)
  · rcases hk with hk | hk
    · exact .inl hk
    · exact .inr (by omega)
  · rcases hk with hk | hk
    · rcases hk2 with hk2 | hk2
      · exact hd k hk hk2
      · have := hX k hk; omega
    · rcases hk2 with hk2 | hk2
      · have := hY k hk2; omega
      · omega
  · have hkl : k < w2.heap.size := by
      rcases hk with hk | hk
      · have := hX k hk; omega
      · exact hk.2
    rw [ho.block k (by omega) fun h => ?_, h3.block k hkl]
    rcases hk with hk | hk
    · exact hd k hk h
    · have := hY k h; omega
  · rcases hk with hk | hk
    · have := hX k hk; omega
    · omega
  · rcases hk with hk | hk
    · have := hY k hk; omega
    · exact hk.2
end Go.Proofs.Ytgiipkmkmomofaa.M
