/- The program's disk: a call that is stopped, or done. -/
import Derived.Test.YtgiipkmkmomofaaProjF
import Derived.Test.YtgiipkmkmomofaaDiskRef6
namespace Go.Proofs.Ytgiipkmkmomofaa.M
open Go.RowKit Go.Maps
open D (Fl Dk)

theorem rest_stopped {d : Dk} (h : d.stopped = true) : restOf d = 0 := by
  unfold D.Dk.stopped at h
  simp only [Bool.and_eq_true, beq_iff_eq] at h
  unfold restOf
  rw [if_pos h.1, h.2]; rfl

theorem rest_not {d : Dk} (h : d.stopped = false) : (restOf d = -1 ∧ d.tick = d) ∨ (0 < restOf d ∧ restOf d ≠ -1 ∧ restOf d = (d.calls : Int) ∧ restOf d.tick = restOf d - 1) := by
  unfold D.Dk.stopped at h
  unfold restOf D.Dk.tick
  cases he : d.ends with
  | false => left; simp
  | true =>
    rw [he] at h
    simp at h
    right
    simp only [if_true, h, not_false_eq_true, and_self, ne_eq, true_and, if_true]
    refine ⟨by omega, by omega, by omega⟩

theorem PDAt.tick {w : World} {X : Nat → Prop} {gd gm : Nat} {d : Dk} {M : DataW Nat} {E : ByteArray → Nat × Value} (h : PDAt w X gd d d.free gm M E) (ht : d.tick = d) : PDAt w X gd d.tick d.tick.free gm M E := by rw [ht]; exact h

/-- A world behind 'work' has lowered the rest. -/
theorem PDsk.ticked {w : World} {X : Nat → Prop} {gd : Nat} {d : Dk} (h : PDsk w X gd d) {r : Int} (hr : r = restOf d.tick) {w' : World} (hw : w' = w.setCell ⟨gd, 1, none⟩ (.int .i64 r)) : Only X w w' ∧ w'.heap.size = w.heap.size ∧ PDsk w' X gd d.tick := by
  subst hw hr
  obtain ⟨gm, M, E, h⟩ := h
  have hb := heap_setCell_same _ _ 1 _ _ (.int .i64 (restOf d.tick)) h.box
  refine ⟨(Only.refl X w).set (.inl h.foot.1) _, by simp, gm, M, E, h.ticked (tick_fs d) ?_ fun k hk => Below.heap_setCell _ _ _ _ (by simpa using hk)⟩
  rw [hb]
  simp [D.Dk.free, tick_room, tick_fs]

theorem PPost.after {w w1 w' : World} {X : Nat → Prop} {gd : Nat} {r : Int × Dk} {e : Ending} (h1 : Only X w w1) (hs : w1.heap.size = w.heap.size) (h : PPost w1 X gd r e w') : PPost w X gd r e w' := by
  obtain ⟨a, b, c⟩ := h
  refine ⟨a, h1.trans (b.mono fun k hk => .inl hk), c.same (fun k hk => ?_) fun _ _ => rfl⟩
  rcases hk with hk | hk
  · exact .inl hk
  · exact .inr ⟨by omega, hk.2⟩

set_option maxRecDepth 20000 in
set_option maxHeartbeats 1600000 in
/-- One of the calls that change a disk: the closure's contract is asked of the disk behind the count. -/
theorem Work_any (n : Nat) (caps : Array Value) (he : ∀ (args : Array Value) (w : World), (callFunc n args).run Try.prog w = .ok (.enter n args) w) (d : Dk) (X : Nat → Prop) (gd : Nat) (r : Int × Dk) (w : World) (hd : PDsk w X gd d) (hc : d.calls ≤ 9223372036854775807)
    (hdo : ∀ w1, Only X w w1 → w1.heap.size = w.heap.size → PDsk w1 X gd d.tick → d.stopped = false → Calls Try.prog n caps w1 (PPost w1 X gd r)) :
    Calls Try.prog 40 #[.pointer (some ⟨gd, 0, none⟩), .func (.func n) #[] caps] w (PPost w X gd (if d.stopped then (32, d) else r)) := by
  have HD := Lib.hid hd
  have HDO := Lib.hid hdo
  obtain ⟨gm, M, E, hat⟩ := hd
  obtain ⟨⟨-, c1, -⟩, ⟨-, f1, -⟩, hz⟩ := hat.cells
  have HAT := Lib.hid hat
  clear hat hdo
  cases hst : d.stopped with
  | true =>
    rw [rest_stopped hst] at c1
    have HST := Lib.hid hst
    clear hst
    go_enter Try.func40, Try.ntmps40
    go_wp2_with fail
    go_ret
    exact ⟨rfl, Only.refl _ _, HD.out.up⟩
  | false =>
    rcases rest_not hst with ⟨h1, h2⟩ | ⟨h1, h2, h3, h4⟩
    · rw [h1] at c1
      have HC : Hid (Calls Try.prog n caps w (PPost w X gd r)) := Lib.hid (HDO.out w (Only.refl _ _) rfl (by rw [h2]; exact HD.out) hst)
      clear h1 h2 hst
      go_enter Try.func40, Try.ntmps40
      go_wp2_with fail
      refine HC.out.mono ?_
      rintro e w' ⟨rfl, ho, hd2⟩
      have HO := Lib.hid ho
      have HD2 := Lib.hid hd2
      clear ho hd2
      go_wp2_with fail
      go_ret
      exact ⟨rfl, HO.out, HD2.out⟩
    · obtain ⟨x, hx⟩ : ∃ x, x = restOf d := ⟨_, rfl⟩
      rw [← hx] at c1 h1 h2 h3 h4
      have q1 : x ≤ 9223372036854775807 := by omega
      have q2 : (x == 0) = false := by simp; omega
      have q3 : (x == -1) = false := by simp; omega
      have HC : Hid (∀ w1, w1 = w.setCell ⟨gd, 1, none⟩ (.int .i64 (x - 1)) → Only X w w1 ∧ w1.heap.size = w.heap.size ∧ Calls Try.prog n caps w1 (PPost w1 X gd r)) := Lib.hid fun w1 hw => by
        obtain ⟨a1, a2, a3⟩ := HD.out.ticked h4.symm hw
        exact ⟨a1, a2, HDO.out w1 a1 a2 a3 hst⟩
      have q4 : 0 < x := h1
      clear h2 h3 h4 hst hx h1
      go_enter Try.func40, Try.ntmps40
      go_wp2_with fail
      obtain ⟨a1, a2, a3⟩ := HC.out _ rfl
      refine a3.mono ?_
      rintro e w' hp
      have HP := Lib.hid (hp.after a1 a2)
      obtain ⟨rfl, -, -⟩ := hp
      clear a1 a2 a3
      go_wp2_with fail
      go_ret
      exact HP.out
end Go.Proofs.Ytgiipkmkmomofaa.M
