/- Rows of bytes that a call makes: one word for the whole state, and the append in it. The library's Clone of bytes. -/
import Derived.Test.YtamgjlegcegmeaaGreatDoorSD5
/- Part: Own. -/
namespace Go.Proofs.YtamgjlegcegmeaaGreatDoor.M
open Go.RowKit

/-- Since the world w nothing that was there has turned, and v is a row of bytes of the call's own. -/
def Own (w : World) (L : List UInt8) (v : Value) (wr : World) : Prop :=
  Below w.heap.size w wr ∧ wr.ownsRow w.heap.size 5 1 v L.length (L.map byteV)

theorem Own.bare {w wr : World} (h : Below w.heap.size w wr) : Own w [] (.slice none 0 0) wr := ⟨h, World.ownsRow_nil _ _ _ _⟩

theorem Own.lit {w wr : World} {g : Nat} (h : Below w.heap.size w wr) (hg : g = wr.heap.size) : Own w [] (.slice (some ⟨g, 0, none⟩) 0 0) (wr.alloc (.cells #[] 5)) := by
  subst hg
  exact ⟨h.alloc h.size _, World.ownsRow_lit wr #[] 0 (base := w.heap.size) (e := 5) (size := 1) h.size (by unfold maxLen; omega) rfl⟩

theorem Own.app {w wr w' : World} {L L2 : List UInt8} {v v' : Value} (h : Own w L v wr) (ha : AppLeft wr w.heap.size 5 1 v L.length L2.length (L.map byteV) (L2.map byteV) v' w') : Own w (L ++ L2) v' w' := by
  obtain ⟨h1, h2, h3⟩ := ha
  refine ⟨h.1.grown h2 h.1.size (fun j hj => (h.2.lt j hj).1), ?_⟩
  rw [List.map_append, List.length_append]; exact h1

theorem Own.rep {w wr : World} {L : List UInt8} {v : Value} (h : Own w L v wr) : RepB wr (fun b => w.heap.size ≤ b ∧ b < wr.heap.size) L v := RepB.of_own h.2

theorem Own.next {w wr w' : World} {L : List UInt8} {v : Value} (h : Own w L v wr) (hb : Below wr.heap.size wr w') : Own w L v w' :=
  ⟨h.1.trans (hb.mono h.1.size), h.2.kept (grown_of_below hb) (by cases v.ownBlock <;> simp)⟩

theorem Own.slice {w wr : World} {L : List UInt8} {v : Value} (h : Own w L v wr) : ∃ a c, v = .slice a L.length c := owned_slice h.2

theorem wpList_own_append {w wr : World} {ops : Array Oper} {rest : List Oper} {o : Oper} {a : Act} {Q : Exit → Act → World → Prop} (hgd : o.guard = none) (s y : Operand)
    (ho : o.op = .call { callee := .builtin .append, args := #[s, y], argTypes := #[34, 34] }) (_hty : o.type = 34)
    {L L2 : List UInt8} {v x : Value} {F : Nat → Prop} (hs : a.eval s = v) (hown : Own w L v wr) (hy : a.eval y = x) (hx : RepB wr F L2 x) (hl : L.length + L2.length ≤ 140737488355328)
    (h : ∀ v' w', Own w (L ++ L2) v' w' → wpList Tryz.prog ops Q rest (a.put o.dst v') w') : wpList Tryz.prog ops Q (o :: rest) a wr := by
  obtain ⟨ib, hib, hib0, hib1, hib2⟩ := info_parts infoByte
  exact wpList_append_any wr hgd s y 34 ho w.heap.size 5 ib (.int .u8 0) 1 1 Tryz.underlying34 hib hib0 hib1 hib2 rfl (by decide) v L.length (L.map byteV) hs hown.2 x hy L2.length (L2.map byteV) hx.yields
    (by unfold maxLen; omega) (by omega) hown.1.size fun v' w' ha => h v' w' (hown.app ha)

/-- One byte in a new block. -/
theorem one_rep {w : World} {c : UInt8} {g : Nat} (hg : g = w.heap.size) : RepB (w.alloc (.cells #[.int .u8 (c.toNat : Int)] 5)) (fun b => b < w.heap.size + 1) [c] (.slice (some ⟨g, 0, none⟩) 1 1) :=
  (RepB.new (L := [c]) hg (by simp)).same (fun k hk => by omega) fun _ _ => rfl

theorem Own.now {w wr : World} {L : List UInt8} {v : Value} (h : Own w L v wr) : RepB wr (fun b => b < wr.heap.size) L v := h.rep.weak fun _ hk => hk.2

theorem lay1 {w : World} {L0 : List UInt8} {u0 : Value} {t : TypeId} {g : Nat} (h0 : RepB w (fun b => b < w.heap.size) L0 u0) (hg : g = w.heap.size) :
    RepBl (w.alloc (.cells #[u0] t)) (fun _ => True) [L0] (.slice (some ⟨g, 0, none⟩) 1 1) := by
  have := RepBl.lay (w := w) (ls := [L0]) (us := [u0]) (t := t) (n := 1) hg rfl rfl (show 1 ≤ 9223372036854775807 by omega) fun i h1 h2 => by
    match i, h1 with
    | 0, _ => exact h0
  exact this.same (fun _ _ => trivial) fun _ _ => rfl

theorem lay2 {w : World} {L0 L1 : List UInt8} {u0 u1 : Value} {t : TypeId} {g : Nat} (h0 : RepB w (fun b => b < w.heap.size) L0 u0) (h1 : RepB w (fun b => b < w.heap.size) L1 u1) (hg : g = w.heap.size) :
    RepBl (w.alloc (.cells #[u0, u1] t)) (fun _ => True) [L0, L1] (.slice (some ⟨g, 0, none⟩) 2 2) := by
  have := RepBl.lay (w := w) (ls := [L0, L1]) (us := [u0, u1]) (t := t) (n := 2) hg rfl rfl (show 2 ≤ 9223372036854775807 by omega) fun i h2 h3 => by
    match i, h2 with
    | 0, _ => exact h0
    | 1, _ => exact h1
  exact this.same (fun _ _ => trivial) fun _ _ => rfl

theorem lay3 {w : World} {L0 L1 L2 : List UInt8} {u0 u1 u2 : Value} {t : TypeId} {g : Nat} (h0 : RepB w (fun b => b < w.heap.size) L0 u0) (h1 : RepB w (fun b => b < w.heap.size) L1 u1) (h2 : RepB w (fun b => b < w.heap.size) L2 u2) (hg : g = w.heap.size) :
    RepBl (w.alloc (.cells #[u0, u1, u2] t)) (fun _ => True) [L0, L1, L2] (.slice (some ⟨g, 0, none⟩) 3 3) := by
  have := RepBl.lay (w := w) (ls := [L0, L1, L2]) (us := [u0, u1, u2]) (t := t) (n := 3) hg rfl rfl (show 3 ≤ 9223372036854775807 by omega) fun i h3 h4 => by
    match i, h3 with
    | 0, _ => exact h0
    | 1, _ => exact h1
    | 2, _ => exact h2
  exact this.same (fun _ _ => trivial) fun _ _ => rfl

theorem one_now {w : World} {c : UInt8} {g : Nat} (hg : g = w.heap.size) : RepB (w.alloc (.cells #[.int .u8 (c.toNat : Int)] 5)) (fun b => b < (w.alloc (.cells #[.int .u8 (c.toNat : Int)] 5)).heap.size) [c] (.slice (some ⟨g, 0, none⟩) 1 1) :=
  (one_rep hg).weak fun k hk => by simpa using hk

theorem Own.drew {w wr : World} {L : List UInt8} {v : Value} (h : Own w L v wr) : Own w L v wr.drew := ⟨h.1.drew, h.2⟩

/-- .. at a step of a region that draws its order. -/
theorem wp_own_append {w wr : World} {o : Oper} {a : Act} {K : Act → World → Prop} {Q : Exit → Act → World → Prop} (s y : Operand)
    (ho : o.op = .call { callee := .builtin .append, args := #[s, y], argTypes := #[34, 34] }) (_hty : o.type = 34)
    {L L2 : List UInt8} {v x : Value} {F : Nat → Prop} (hs : a.eval s = v) (hown : Own w L v wr) (hy : a.eval y = x) (hx : RepB wr F L2 x) (hl : L.length + L2.length ≤ 140737488355328)
    (h : ∀ v' w', Own w (L ++ L2) v' w' → K (a.put o.dst v') w') : o.wp Tryz.prog a wr K Q := by
  obtain ⟨ib, hib, hib0, hib1, hib2⟩ := info_parts infoByte
  exact wp_append_any wr s y 34 ho w.heap.size 5 ib (.int .u8 0) 1 1 Tryz.underlying34 hib hib0 hib1 hib2 rfl (by decide) v L.length (L.map byteV) hs hown.2 x hy L2.length (L2.map byteV) hx.yields
    (by unfold maxLen; omega) (by omega) hown.1.size fun v' w' ha => h v' w' (hown.app ha)

theorem Own.head {w wr : World} {L : List UInt8} {a : Option Addr} {n c : Nat} (h : Own w L (.slice a n c) wr) (h0 : 0 < L.length) : ∃ g, a = some ⟨g, 0, none⟩ ∧ w.heap.size ≤ g ∧ g < wr.heap.size := by
  have hl := h.2.lt
  rcases h.2.2 with ⟨h1, h2⟩ | ⟨g, cap, cur, h1, h2, _⟩
  · have := h.2.1
    cases h1
    omega
  · cases h1
    exact ⟨g, rfl, h2, (hl g rfl).2⟩

theorem Own.at {w wr : World} {L : List UInt8} {g n c : Nat} (h : Own w L (.slice (some ⟨g, 0, none⟩) n c) wr) (hn : n = L.length) (j : Nat) (hj : j < L.length) :
    wr.cell? ⟨g, j, none⟩ = some (.int .u8 (L[j].toNat : Int)) ∧ wr.frozen? ⟨g, j, none⟩ = false := by
  subst hn
  refine ⟨?_, h.2.frozenAt j⟩
  rw [h.2.cellAt j (by omega)]
  simp [hj, byteV]

theorem Own.put {w wr : World} {L : List UInt8} {g n c : Nat} (h : Own w L (.slice (some ⟨g, 0, none⟩) n c) wr) (hn : n = L.length) (j : Nat) (d : UInt8) {x : Int} (hx : x = (d.toNat : Int)) :
    Own w (L.set j d) (.slice (some ⟨g, 0, none⟩) n c) (wr.setCell ⟨g, j, none⟩ (.int .u8 x)) := by
  subst hn hx
  have hg := (h.2.lt g rfl).1
  refine ⟨h.1.setCell hg _, ?_⟩
  have := (h.2.stored j (byteV d)).1
  rw [List.length_set, List.map_set]
  exact this
end Go.Proofs.YtamgjlegcegmeaaGreatDoor.M

/- Part: Clone. -/
namespace Go.Proofs.YtamgjlegcegmeaaGreatDoor.M
open Go.RowKit

set_option maxRecDepth 20000 in
set_option maxHeartbeats 800000 in
theorem Clone_any (a : Option Addr) (l : List UInt8) (n c : Nat) (hn : n = l.length) (w : World) (F : Nat → Prop) (h : RepB w F l (.slice a n c)) (hF : ∀ k, F k → k < w.heap.size) (hnil : a = none → n = 0 ∧ c = 0) (hl : l.length ≤ 140737488355328) :
    Calls Tryz.prog 71 #[.slice a n c] w fun e w' => ∃ v, e = .returned v ∧ Own w l v w' := by
  subst hn
  cases a with
  | none =>
    obtain ⟨h1, rfl⟩ := hnil rfl
    have : l = [] := List.length_eq_zero_iff.1 h1
    subst this
    clear h hnil
    have hq : ∀ W : World, (binOp .eql 34 (.slice none 0 0) (.slice none 0 0)).run Tryz.prog W = .ok (.bool true) W := fun _ => rfl
    go_enter Tryz.func71, Tryz.ntmps71
    go_wp2_with fail
    go_ret
    exact ⟨_, rfl, Own.bare (Below.refl _ _)⟩
  | some a =>
    have HR := Lib.hid h
    clear h hnil
    have hq : ∀ W : World, (binOp .eql 34 (.slice (some a) l.length c) (.slice none 0 0)).run Tryz.prog W = .ok (.bool false) W := fun _ => rfl
    go_enter Tryz.func71, Tryz.ntmps71
    go_wp2_with (at_builtin; refine wpList_own_append (w := w) rfl (.tmp 5) (.tmp 6) rfl rfl (L := []) (L2 := l) rfl (Own.lit (Below.refl _ _) rfl) rfl (HR.out.later hF (below_alloc _ _)) (by simp; omega) ?_)
    intro v' w' hown
    have HO := Lib.hid hown
    clear hown
    go_wp2_with fail
    go_ret
    exact ⟨_, rfl, by simpa using HO.out⟩
end Go.Proofs.YtamgjlegcegmeaaGreatDoor.M
