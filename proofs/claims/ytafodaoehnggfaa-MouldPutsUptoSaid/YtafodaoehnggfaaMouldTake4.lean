/- The reader of package mould: what its plain functions leave; lists. -/
import Derived.Test.YtafodaoehnggfaaMouldTake3
namespace Go.Proofs.Ytafodaoehnggfaa.M
open Go.RowKit

/-- What a reading may answer. -/
def Fair (b : List UInt8) {α : Type} (r : Except Int (α × List UInt8)) : Prop :=
  match r with
  | .error c => c = 11 ∨ c = 13
  | .ok (_, l) => l.length ≤ b.length

theorem fair_num (b : List UInt8) : Fair b (takeNum b) := by
  cases h : takeNum b with
  | error c => exact takeNum_error h
  | ok x => obtain ⟨n, r⟩ := x; exact Nat.le_of_lt (takeNum_ok h).2

theorem fair_many {t : List UInt8 → Except Int (V × List UInt8)} (ht : ∀ b, Fair b (t b)) : ∀ (n : Nat) (b : List UInt8), Fair b (takeMany t n b)
  | 0, b => by unfold takeMany Fair; simp
  | n + 1, b => by
    rw [takeMany]
    have h1 := ht b
    cases h : t b with
    | error c => rw [h] at h1; exact h1
    | ok x =>
      obtain ⟨v, b'⟩ := x
      rw [h] at h1
      have h2 := fair_many ht n b'
      dsimp only
      cases h' : takeMany t n b' with
      | error c => rw [h'] at h2; exact h2
      | ok y =>
        obtain ⟨l, b''⟩ := y
        rw [h'] at h2
        exact Nat.le_trans h2 h1

mutual
theorem fair_take : ∀ (s : Sh) (b : List UInt8), Fair b (takeV s b)
  | .num, b => by
    have h1 := fair_num b
    rw [takeV]
    cases h : takeNum b with
    | error c => rw [h] at h1; exact h1
    | ok x => obtain ⟨n, r⟩ := x; rw [h] at h1; exact h1
  | .blob, b => by
    have h1 := fair_num b
    rw [takeV]
    cases h : takeNum b with
    | error c => rw [h] at h1; exact h1
    | ok x =>
      obtain ⟨n, r⟩ := x
      rw [h] at h1
      dsimp only
      split
      · exact .inl rfl
      · unfold Fair at h1 ⊢
        simp only [List.length_drop]
        dsimp only at h1
        omega
  | .list s, b => by
    have h1 := fair_num b
    rw [takeV]
    cases h : takeNum b with
    | error c => rw [h] at h1; exact h1
    | ok x =>
      obtain ⟨n, r⟩ := x
      rw [h] at h1
      dsimp only
      split
      · exact .inl rfl
      · split
        · exact .inr rfl
        · have h2 := fair_many (fair_take s) n r
          cases h' : takeMany (takeV s) n r with
          | error c => rw [h'] at h2; exact h2
          | ok y => obtain ⟨l, r'⟩ := y; rw [h'] at h2; exact Nat.le_trans h2 h1
  | .row l, b => by
    have h1 := fair_takes l b
    rw [takeV]
    cases h : takeVs l b with
    | error c => rw [h] at h1; exact h1
    | ok x => obtain ⟨n, r⟩ := x; rw [h] at h1; exact h1
theorem fair_takes : ∀ (l : List Sh) (b : List UInt8), Fair b (takeVs l b)
  | [], b => by rw [takeVs]; unfold Fair; simp
  | s :: l, b => by
    have h1 := fair_take s b
    rw [takeVs]
    cases h : takeV s b with
    | error c => rw [h] at h1; exact h1
    | ok x =>
      obtain ⟨v, b'⟩ := x
      rw [h] at h1
      have h2 := fair_takes l b'
      dsimp only
      cases h' : takeVs l b' with
      | error c => rw [h'] at h2; exact h2
      | ok y => obtain ⟨vs, b''⟩ := y; rw [h'] at h2; exact Nat.le_trans h2 h1
end

/-- Values read already, ahead of what is read then. -/
def catV (ds : List V) (r : Except Int (List V × List UInt8)) : Except Int (List V × List UInt8) :=
  match r with
  | .error c => .error c
  | .ok (l, b) => .ok (ds ++ l, b)

theorem catV_nil (r : Except Int (List V × List UInt8)) : r = catV [] r := by cases r <;> rfl

theorem catV_step {t : List UInt8 → Except Int (V × List UInt8)} {n : Nat} {b r : List UInt8} {d : V} {ds : List V} (h : t b = .ok (d, r)) : catV ds (takeMany t (n + 1) b) = catV (ds ++ [d]) (takeMany t n r) := by
  rw [takeMany, h]
  dsimp only
  cases h' : takeMany t n r with
  | error c => rfl
  | ok y => obtain ⟨l, b'⟩ := y; simp [catV]

theorem catV_fails {t : List UInt8 → Except Int (V × List UInt8)} {n : Nat} {b : List UInt8} {c : Int} {ds : List V} (h : t b = .error c) : catV ds (takeMany t (n + 1) b) = .error c := by
  rw [takeMany, h]; rfl

theorem catV_ends {t : List UInt8 → Except Int (V × List UInt8)} {b : List UInt8} {ds : List V} : catV ds (takeMany t 0 b) = .ok (ds, b) := by
  rw [takeMany]; simp [catV]

theorem catR_step {s : Sh} {l : List Sh} {b r : List UInt8} {d : V} {ds : List V} (h : takeV s b = .ok (d, r)) : catV ds (takeVs (s :: l) b) = catV (ds ++ [d]) (takeVs l r) := by
  rw [takeVs, h]
  dsimp only
  cases h' : takeVs l r with
  | error c => rfl
  | ok y => obtain ⟨l, b'⟩ := y; simp [catV]

theorem catR_fails {s : Sh} {l : List Sh} {b : List UInt8} {c : Int} {ds : List V} (h : takeV s b = .error c) : catV ds (takeVs (s :: l) b) = .error c := by
  rw [takeVs, h]; rfl

theorem catR_ends {b : List UInt8} {ds : List V} : catV ds (takeVs [] b) = .ok (ds, b) := by
  rw [takeVs]; simp [catV]

theorem infoVal : (Try.prog.info? 31).map (fun i => (i.zero, i.size, i.bytes)) = some (some (.agg #[.int .u64 0, .slice none 0 0, .slice none 0 0]), 3, 56) := by kernel_rfl

/-- The values gathered so far by a call that began in w, and what is left of the bytes. -/
structure Gather (w : World) (rb : Nat) (F : Nat → Prop) (o1 o2 : Obj) (ds : List V) (va : Option Addr) (vn vc : Nat) (lk : List UInt8) (wr : World) : Prop where
  grown : w.grownBy wr (some rb)
  box1 : wr.heap[w.heap.size]? = some o1
  box2 : wr.heap[w.heap.size + 1]? = some o2
  left : ∃ v, ReadAt wr rb v ∧ RepB wr F lk v
  owns : ∃ xs, wr.ownsRow (w.heap.size + 2) 31 3 (.slice va vn vc) ds.length xs ∧ Kids (RepV wr fun b => w.heap.size + 2 ≤ b ∧ b < wr.heap.size ∧ (Value.slice va vn vc).ownBlock ≠ some b) ds xs

/-- The world moves on without touching what was gathered. -/
theorem Gather.next {w wr w1 : World} {rb : Nat} {F : Nat → Prop} {o1 o2 : Obj} {ds : List V} {va : Option Addr} {vn vc : Nat} {lk l1 : List UInt8} {v1 : Value} (h : Gather w rb F o1 o2 ds va vn vc lk wr) (hrb : rb < w.heap.size)
    (hg : wr.grownBy w1 (some rb)) (hr : ReadAt w1 rb v1) (hv : RepB w1 F l1 v1) : Gather w rb F o1 o2 ds va vn vc l1 w1 := by
  obtain ⟨hg0, h1, h2, _, xs, hown, hk⟩ := h
  have hz1 := lt_of_heap h1
  have hz2 := lt_of_heap h2
  refine ⟨gb_trans hg0 hg, (hg.block _ hz1 (by simp; omega)).trans h1, (hg.block _ hz2 (by simp; omega)).trans h2, ⟨v1, hr, hv⟩, xs, hown.kept hg ?_, hk.mono fun s u hu => hu.same ?_ ?_⟩
  · cases ho : (Value.slice va vn vc).ownBlock with
    | none => exact .inl rfl
    | some k =>
      have := (hown.lt k ho).1
      exact .inr (by simp; omega)
  · intro b ⟨a1, a2, a3⟩
    exact ⟨a1, Nat.lt_of_lt_of_le a2 hg.size, a3⟩
  · intro b ⟨a1, a2, a3⟩
    exact hg.block b a2 (by simp; omega)

/-- One value more is appended. -/
theorem Gather.push {w w1 w4 : World} {rb : Nat} {F : Nat → Prop} {o1 o2 o3 o4 : Obj} {ds : List V} {d : V} {va va' : Option Addr} {vn vn' vc vc' lo : Nat} {lk : List UInt8} {x y z : Value} {xs : List Value} {n : Nat}
    (h : Gather w rb F o1 o2 ds va vn vc lk w1) (hrb : rb < w.heap.size) (hF : ∀ b, F b → b < w.heap.size ∧ b ≠ rb) (hd : RepV w1 (fun b => lo ≤ b ∧ b < w1.heap.size) d (.agg #[x, y, z])) (hlo : w.heap.size + 2 ≤ lo)
    (hown1 : w1.ownsRow (w.heap.size + 2) 31 3 (.slice va vn vc) ds.length xs) (hkids : Kids (RepV w1 fun b => w.heap.size + 2 ≤ b ∧ b < w1.heap.size ∧ (Value.slice va vn vc).ownBlock ≠ some b) ds xs)
    (hlo2 : ∀ k, (Value.slice va vn vc).ownBlock = some k → k < lo)
    (hown : w4.ownsRow (w.heap.size + 2) 31 3 (.slice va' vn' vc') n (xs ++ [x, y, z])) (hn : n = ds.length + 1)
    (hg : ((w1.alloc o3).alloc o4).grownBy w4 (Value.slice va vn vc).ownBlock)
    (hwhere : (Value.slice va' vn' vc').ownBlock = (Value.slice va vn vc).ownBlock ∨ (Value.slice va' vn' vc').ownBlock = some (w1.heap.size + 2)) :
    Gather w rb F o1 o2 (ds ++ [d]) va' vn' vc' lk w4 := by
  obtain ⟨hg0, h1, h2, ⟨v, hr, hv⟩, _⟩ := h
  have hz := hg.size
  simp at hz
  have hz2 := lt_of_heap h2
  have hne : ∀ k, k < w.heap.size + 2 → (Value.slice va vn vc).ownBlock ≠ some k := fun k hk h => by
    have := (hown1.lt k h).1; omega
  have hkeep : ∀ k, k < w1.heap.size → (Value.slice va vn vc).ownBlock ≠ some k → w4.heap[k]? = w1.heap[k]? := fun k hk hn => by
    rw [hg.block k (by simp; omega) (fun h => hn h.symm), Below.heap_alloc _ _ _ (by simp; omega), Below.heap_alloc _ _ _ hk]
  have hnew : ∀ b, b < w1.heap.size → (Value.slice va vn vc).ownBlock ≠ some b → (Value.slice va' vn' vc').ownBlock ≠ some b := fun b hb hn h => by
    rcases hwhere with h5 | h5
    · exact hn (h5.symm.trans h)
    · rw [h] at h5; simp at h5; omega
  subst hn
  refine ⟨⟨hg.os.trans hg0.os, hg.tape.trans hg0.tape, hg.output.trans hg0.output, by have := hg0.size; omega, fun k hk hn => ?_⟩, (hkeep _ (by omega) (hne _ (by omega))).trans h1, (hkeep _ hz2 (hne _ (by omega))).trans h2,
    ⟨v, (hkeep rb (by omega) (hne rb (by omega))).trans hr, hv.same (fun _ h => h) fun b hb => hkeep b (by have := (hF b hb).1; omega) (hne b (by have := (hF b hb).1; omega))⟩,
    xs ++ [x, y, z], by rw [List.length_append, List.length_singleton]; exact hown, Kids.snoc (hd.same ?_ ?_) (hkids.mono fun s u hu => hu.same ?_ ?_)⟩
  · have := hg0.size
    rw [hkeep k (by omega) (hne k (by omega))]
    exact hg0.block k hk hn
  · intro b ⟨a1, a2⟩
    exact ⟨by omega, by omega, hnew b a2 fun h => by have := hlo2 b h; omega⟩
  · intro b ⟨a1, a2⟩
    exact hkeep b a2 fun h => by have := hlo2 b h; omega
  · intro b ⟨a1, a2, a3⟩
    exact ⟨a1, by omega, hnew b a2 a3⟩
  · intro b ⟨a1, a2, a3⟩
    exact hkeep b a2 a3
end Go.Proofs.Ytafodaoehnggfaa.M
