/- The document's disk: Append. -/
import Derived.Test.YtgiipkmkmomofaaDiskRef9
namespace Go.Proofs.Ytgiipkmkmomofaa.M
open Go.RowKit
open D (Fl Dk)

theorem append_32 {d : Dk} {s : ByteArray} {bs : List (List UInt8)} (h : d.stopped = true) : D.append d s bs = (32, d) := by unfold D.append; rw [if_pos h]

theorem tick_free (d : Dk) : d.tick.free = d.free := by unfold D.Dk.free; rw [tick_fs, tick_room]

theorem append_30 {d : Dk} {s : ByteArray} {bs : List (List UInt8)} (h : d.stopped = false) (hn : D.okName s = false) : D.append d s bs = (30, d.tick) := by
  unfold D.append
  rw [if_neg (by rw [h]; simp)]
  simp only
  rw [if_pos hn]

theorem append_31 {d : Dk} {s : ByteArray} {bs : List (List UInt8)} (h : d.stopped = false) (hn : D.okName s = true) (hf : (bs.flatten.length : Int) > d.free ∨ (D.isThere d.fs s = false ∧ 4096 ≤ d.fs.length)) : D.append d s bs = (31, d.tick) := by
  unfold D.append
  rw [if_neg (by rw [h]; simp)]
  simp only [tick_free, tick_fs]
  rw [if_neg (by rw [hn]; simp), if_pos hf]

theorem append_0 {d : Dk} {s : ByteArray} {bs : List (List UInt8)} (h : d.stopped = false) (hn : D.okName s = true) (hf : ¬ ((bs.flatten.length : Int) > d.free ∨ (D.isThere d.fs s = false ∧ 4096 ≤ d.fs.length))) :
    D.append d s bs = (0, { d.tick with fs := D.layAt (if D.isThere d.fs s then d.fs else D.add d.fs ⟨s, [], 0⟩) (D.find (if D.isThere d.fs s then d.fs else D.add d.fs ⟨s, [], 0⟩) s) bs.flatten }) := by
  unfold D.append
  rw [if_neg (by rw [h]; simp)]
  simp only [tick_free, tick_fs]
  rw [if_neg (by rw [hn]; simp), if_neg hf]

/-- The state at the head of the loop that lays bytes. -/
def LayS (ws : World) (X1 : Nat → Prop) (gd ga c n i : Nat) (e : Dk) (fs : List Fl) (f0 : Fl) (bs : List (List UInt8)) (k : Nat) (wr : World) : Prop :=
  k ≤ bs.length ∧ Only X1 ws wr ∧ ∃ fv : List (Fl × Value), fv.length = n ∧ DkAt wr (More X1 ws wr) gd { e with fs := fs.set i { f0 with b := f0.b ++ (bs.take k).flatten } } (.slice (some ⟨ga, 0, none⟩) n c) fv

theorem LayS.drew {ws wr : World} {X1 : Nat → Prop} {gd ga c n i k : Nat} {e : Dk} {fs : List Fl} {f0 : Fl} {bs : List (List UInt8)} (h : LayS ws X1 gd ga c n i e fs f0 bs k wr) : LayS ws X1 gd ga c n i e fs f0 bs k wr.drew := by
  obtain ⟨h1, h2, fv, h3, h4⟩ := h
  exact ⟨h1, ⟨h2.os, h2.tape, h2.output, h2.size, h2.block⟩, fv, h3, h4.same (fun _ h => h) fun _ _ => rfl⟩

/-- One piece more. -/
theorem LayS.step {ws wr w2 : World} {X1 : Nat → Prop} {gd ga c n i k m : Nat} {e : Dk} {fs : List Fl} {f0 : Fl} {bs : List (List UInt8)} {fv : List (Fl × Value)} {v : Value} (hk : k < bs.length) (ho : Only X1 ws wr) (hn : fv.length = n)
    (hat : DkAt wr (More X1 ws wr) gd { e with fs := fs.set i { f0 with b := f0.b ++ (bs.take k).flatten } } (.slice (some ⟨ga, 0, none⟩) n c) fv) (hX1 : ∀ k, X1 k → k < ws.heap.size) (hi : i < fs.length) (hiv : i < fv.length) (hm : m = bs[k].length)
    (ha : AppLeft wr 0 5 1 fv[i].2 fv[i].1.b.length m (fv[i].1.b.map byteV) (bs[k].map byteV) v w2) (hga : More X1 ws wr ga) :
    LayS ws X1 gd ga c n i e fs f0 bs (k + 1) (w2.setCell ⟨ga, i * 3 + 1, none⟩ v) := by
  obtain ⟨h1, h2, h3⟩ := ha
  subst hn hm
  have hs := h2.size
  have hfi : fv[i].1 = { f0 with b := f0.b ++ (bs.take k).flatten } := by
    have := hat.get i hiv (by simpa using hi)
    rw [this]; simp
  have hXr : ∀ j, More X1 ws wr j → j < wr.heap.size := fun j hj => by
    rcases hj with hj | hj
    · exact Nat.lt_of_lt_of_le (hX1 j hj) ho.size
    · exact hj.2
  have hp := hat.put (Y := More X1 ws (w2.setCell ⟨ga, i * 3 + 1, none⟩ v)) (w1 := w2) (i := i) (p := ({ f0 with b := f0.b ++ (bs.take (k + 1)).flatten }, v)) (j := 1) (x := v) hiv
    (fun j hj => by
      rcases hj with hj | hj
      · exact .inl hj
      · exact .inr ⟨hj.1, by simp; omega⟩)
    hXr (fun j hj hne => h2.block j hj fun e => hne e.symm) (by omega) (by rw [show flV fv[i] = [.string fv[i].1.nm, fv[i].2, .int .i64 (fv[i].1.safe : Int)] from rfl, hfi]; rfl)
    (by
      show w2.ownsRow 0 5 1 v (f0.b ++ (bs.take (k + 1)).flatten).length ((f0.b ++ (bs.take (k + 1)).flatten).map byteV)
      rw [hfi] at h1
      have e1 : f0.b ++ (bs.take (k + 1)).flatten = (f0.b ++ (bs.take k).flatten) ++ bs[k] := by
        rw [List.take_succ_eq_append_getElem hk, List.flatten_append]; simp
      rw [e1, List.length_append, List.map_append]
      exact h1)
    (fun j hj => by
      rcases h3 with h3 | h3
      · exact .inl (by rw [← h3]; exact hj)
      · have : j = wr.heap.size := by rw [h3] at hj; cases hj; rfl
        have hlt := (h1.lt j hj).2
        have hss := ho.size
        exact .inr ⟨.inr ⟨by omega, by simpa using hlt⟩, by omega⟩)
  refine ⟨by omega, ?_, fv.set i ({ f0 with b := f0.b ++ (bs.take (k + 1)).flatten }, v), by simp, ?_⟩
  · have hg : Only X1 ws w2 := ⟨h2.os.trans ho.os, h2.tape.trans ho.tape, h2.output.trans ho.output, Nat.le_trans ho.size hs, fun j hj hne => by
      rw [h2.block j (Nat.lt_of_lt_of_le hj ho.size) fun e => ?_]
      · exact ho.block j hj hne
      · have := hat.foot j (mem_blocks_file (List.getElem_mem hiv) e.symm)
        rcases this with h | h
        · exact hne h
        · omega⟩
    refine hg.set ?_ _
    rcases hga with h | h
    · exact .inl h
    · exact .inr h.1
  · rw [List.set_set] at hp
    exact hp
end Go.Proofs.Ytgiipkmkmomofaa.M
