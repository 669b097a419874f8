/- The document's list into which a number is put. The way from one configuration to another, over plain lists. -/
import Derived.Test.YtfdlpmphgojlhaaMM10
/- Part: MmN. -/
namespace Go.Proofs.Ytfdlpmphgojlhaa.M
open Go.RowKit

theorem putN_split {a b : List Int} {x : Int} (h : ∀ y ∈ a, ¬ x < y) : putN (a ++ b) x = a ++ putN b x := by
  induction a with
  | nil => rfl
  | cons y r ih =>
    rw [List.cons_append, show putN (y :: (r ++ b)) x = if x < y then x :: y :: (r ++ b) else y :: putN (r ++ b) x from rfl, if_neg (h y (by simp)), ih fun z hz => h z (by simp [hz])]
    rfl

/-- How far the copy has come. -/
def PutAt (l : List Int) (x : Int) (dn : Bool) (k : Nat) (O : List Int) : Prop :=
  O.length ≤ k + 1 ∧ if dn then putN l x = O ++ l.drop k else O = l.take k ∧ ∀ y ∈ l.take k, ¬ x < y

theorem PutAt.start (l : List Int) (x : Int) : PutAt l x false 0 [] := ⟨by simp, by simp⟩

theorem PutAt.done {l : List Int} {x z : Int} {k : Nat} {O : List Int} (h : PutAt l x true k O) (hk : k < l.length) (hz : z = l[k]) (ho : O.length ≤ k + 1) : PutAt l x true (k + 1) (O ++ [z]) := by
  subst hz
  obtain ⟨h1, h2⟩ := h
  refine ⟨by simp; omega, ?_⟩
  simp only [if_true] at h2 ⊢
  rw [h2, List.drop_eq_getElem_cons hk]
  simp

theorem PutAt.here {l : List Int} {x z : Int} {k : Nat} {O : List Int} (h : PutAt l x false k O) (hk : k < l.length) (hz : z = l[k]) (hx : x < z) : PutAt l x true (k + 1) ((O ++ [x]) ++ [z]) := by
  subst hz
  obtain ⟨h1, h2⟩ := h
  simp only [Bool.false_eq_true, if_false] at h2
  obtain ⟨rfl, h3⟩ := h2
  refine ⟨by simp; omega, ?_⟩
  simp only [if_true]
  conv => lhs; rw [← List.take_append_drop k l]
  rw [putN_split h3, List.drop_eq_getElem_cons hk]
  simp [putN, hx]

theorem PutAt.more {l : List Int} {x z : Int} {k : Nat} {O : List Int} (h : PutAt l x false k O) (hk : k < l.length) (hz : z = l[k]) (hx : ¬ x < z) : PutAt l x false (k + 1) (O ++ [z]) := by
  subst hz
  obtain ⟨h1, h2⟩ := h
  simp only [Bool.false_eq_true, if_false] at h2
  obtain ⟨rfl, h3⟩ := h2
  refine ⟨by simp; omega, ?_⟩
  simp only [Bool.false_eq_true, if_false]
  refine ⟨(take_snoc hk).symm, fun y hy => ?_⟩
  rw [take_snoc hk] at hy
  rcases List.mem_append.1 hy with hy | hy
  · exact h3 y hy
  · simp at hy; rw [hy]; exact hx

theorem PutAt.end_t {l : List Int} {x : Int} {O : List Int} (h : PutAt l x true l.length O) : putN l x = O := by
  have := h.2
  simpa using this

theorem PutAt.end_f {l : List Int} {x : Int} {O : List Int} (h : PutAt l x false l.length O) : putN l x = O ++ [x] := by
  have h2 := h.2
  simp only [Bool.false_eq_true, if_false, List.take_length] at h2
  obtain ⟨rfl, h3⟩ := h2
  have := putN_split (a := O) (b := []) (x := x) h3
  simpa [putN] using this

set_option maxRecDepth 20000 in
set_option maxHeartbeats 3200000 in
theorem RefPut_any (l : List Int) (x : Int) (F : Nat → Prop) (v : Value) (w : World) (hv : RepI w F l v) (hF : ∀ k, F k → k < w.heap.size) (hl : l.length ≤ 1000000) (hx : okN x) :
    Calls Try.prog 43 #[v, .int .i64 x] w fun e w' => ∃ v', e = .returned v' ∧ OwnI w (putN l x) v' w' := by
  obtain ⟨va, vc, rfl, -⟩ := hv.slice
  obtain ⟨n, hn⟩ : ∃ n, n = l.length := ⟨_, rfl⟩
  rw [← hn] at hl ⊢
  have HV := Lib.hid hv
  have HF := Lib.hid hF
  have HN := Lib.hid hn
  have HXB : Hid (-9223372036854775808 ≤ x ∧ x ≤ 9223372036854775807) := Lib.hid ⟨by have := hx.1; omega, by have := hx.2; omega⟩
  rw [← hn] at HV
  clear hv hn hF hx
  go_enter Try.func43, Try.ntmps43
  go_wp2_with fail
  obtain ⟨w0, hw0⟩ : ∃ w0 : World, w0 = w := ⟨_, rfl⟩
  subst hw0
  go_loopg [5, 6, 7] n (fun gk o d i wr => ∃ (k : Nat) (dn : Bool) (O : List Int), k + gk = n ∧ d = .bool dn ∧ i = .int .i64 (k : Int) ∧ Hid (OwnI w0 O o wr) ∧ Hid (PutAt l x dn k O))
  case atStart => exact ⟨0, false, [], by omega, rfl, rfl, Lib.hid (OwnI.start w0), Lib.hid (PutAt.start l x)⟩
  case round =>
    obtain ⟨k, dn, Oc, hk, rfl, rfl, HO, HP⟩ := hrel
    obtain ⟨oa, oc, ho⟩ := HO.out.2.slice
    obtain ⟨on, hon⟩ : ∃ on, on = Oc.length := ⟨_, rfl⟩
    have honl : on ≤ k + 1 := by rw [hon]; exact HP.out.1
    rw [← hon] at ho
    subst ho
    have HON := Lib.hid hon
    clear hon
    by_cases hlt : k < n
    · have hkk : (k : Int) < (n : Int) := by omega
      have hlt2 : k < l.length := by rw [← HN.out]; exact hlt
      obtain ⟨b, off, rfl, hb, e0, e1, e2⟩ := (HV.out.below HF.out HO.out.1).elem k hlt2
      have hbz : b < wr.heap.size := Nat.lt_of_lt_of_le (HF.out b hb) HO.out.1.size
      have HBF := Lib.hid (HF.out b hb)
      obtain ⟨z, hz⟩ : ∃ z, z = l[k] := ⟨_, rfl⟩
      rw [← hz] at e0 e1 e2
      have HZB := Lib.hid (And.intro e1 e2)
      cases dn with
      | true =>
        have HP2 : Hid (PutAt l x true (k + 1) (Oc ++ [z])) := Lib.hid (HP.out.done hlt2 hz HP.out.1)
        clear hz hb e1 e2
        go_wp2_with (at_builtin; refine wpList_ir_append rfl (.tmp 28) (.tmp 33) rfl rfl (base := w0.heap.size) (L := Oc) (L2 := [z]) rfl (HO.out.2.next (below_alloc wr _)) (by have := HO.out.1.size; simp; omega) rfl (one_int rfl HZB.out) (by rw [← HON.out]; simp; omega) ?_)
        intro o' w2 ht
        have HO2 : Hid (OwnI w0 (Oc ++ [z]) o' w2) := Lib.hid ((HO.out.next (below_alloc wr _)).turned ht)
        clear ht e0
        go_wp2_with fail
        go_roundg (gk - 1)
        case measure => omega
        case rel => exact ⟨k + 1, _, _, by omega, rfl, by go_num, HO2, HP2⟩
      | false =>
        by_cases hxz : z > x
        · have q : decide (z > x) = true := decide_eq_true hxz
          have HP2 : Hid (PutAt l x true (k + 1) ((Oc ++ [x]) ++ [z])) := Lib.hid (HP.out.here hlt2 hz hxz)
          clear hz hb e1 e2
          go_wp2_with (at_builtin; refine wpList_ir_append rfl (.tmp 24) (.tmp 26) rfl rfl (base := w0.heap.size) (L := Oc) (L2 := [x]) rfl (HO.out.2.next (below_alloc wr _)) (by have := HO.out.1.size; simp; omega) rfl (one_int rfl HXB.out) (by rw [← HON.out]; simp; omega) ?_)
          intro o1 w1 ht1
          have HO1 : Hid (OwnI w0 (Oc ++ [x]) o1 w1) := Lib.hid ((HO.out.next (below_alloc wr _)).turned ht1)
          have hbw : w1.heap[b]? = wr.heap[b]? := (HO1.out.1.block b HBF.out).trans (HO.out.1.block b HBF.out).symm
          have e0' := (World.cell?_of_block (a := ⟨b, off + k, none⟩) hbw).trans e0
          have hbz' : b < w1.heap.size := Nat.lt_of_lt_of_le HBF.out HO1.out.1.size
          obtain ⟨oa1, oc1, ho1⟩ := HO1.out.2.slice
          obtain ⟨on1, hon1⟩ : ∃ on1, on1 = (Oc ++ [x]).length := ⟨_, rfl⟩
          have honl1 : on1 ≤ k + 2 := by rw [hon1]; simp; have := HP.out.1; omega
          rw [← hon1] at ho1
          subst ho1
          have HON1 := Lib.hid hon1
          clear ht1 e0 hbz hbw hon1 hxz HO
          have e0 := e0'
          clear e0'
          have HO := HO1
          obtain ⟨wr0, hwr0⟩ : ∃ wr0, wr0 = wr := ⟨_, rfl⟩
          go_wp2_with (at_builtin; refine wpList_ir_append rfl (.tmp 28) (.tmp 33) rfl rfl (base := w0.heap.size) (L := Oc ++ [x]) (L2 := [z]) rfl (HO.out.2.next (below_alloc w1 _)) (by have := HO.out.1.size; simp; omega) rfl (one_int rfl HZB.out) (by rw [← HON1.out]; simp; omega) ?_)
          intro o' w2 ht
          have HO2 : Hid (OwnI w0 ((Oc ++ [x]) ++ [z]) o' w2) := Lib.hid ((HO.out.next (below_alloc w1 _)).turned (by simpa using ht))
          clear ht e0
          go_wp2_with fail
          go_roundg (gk - 1)
          case measure => omega
          case rel => exact ⟨k + 1, _, _, by omega, rfl, by go_num, HO2, HP2⟩
        · have q : decide (z > x) = false := decide_eq_false hxz
          have HP2 : Hid (PutAt l x false (k + 1) (Oc ++ [z])) := Lib.hid (HP.out.more hlt2 hz hxz)
          clear hz hb e1 e2
          go_wp2_with (at_builtin; refine wpList_ir_append rfl (.tmp 28) (.tmp 33) rfl rfl (base := w0.heap.size) (L := Oc) (L2 := [z]) rfl (HO.out.2.next (below_alloc wr _)) (by have := HO.out.1.size; simp; omega) rfl (one_int rfl HZB.out) (by rw [← HON.out]; simp; omega) ?_)
          intro o' w2 ht
          have HO2 : Hid (OwnI w0 (Oc ++ [z]) o' w2) := Lib.hid ((HO.out.next (below_alloc wr _)).turned ht)
          clear ht e0
          go_wp2_with fail
          go_roundg (gk - 1)
          case measure => omega
          case rel => exact ⟨k + 1, _, _, by omega, rfl, by go_num, HO2, HP2⟩
    · obtain rfl : k = n := by omega
      have hkk : ¬ ((k : Nat) : Int) < (k : Int) := by omega
      cases dn with
      | true =>
        have HE : Hid (putN l x = Oc) := Lib.hid (PutAt.end_t (by have := HP.out; rw [HN.out] at this; exact this))
        go_wp2_with fail
        go_ret
        exact ⟨_, rfl, by rw [HE.out]; exact HO.out⟩
      | false =>
        have HE : Hid (putN l x = Oc ++ [x]) := Lib.hid (PutAt.end_f (by have := HP.out; rw [HN.out] at this; exact this))
        go_wp2_with (at_builtin; refine wpList_ir_append rfl (.tmp 37) (.tmp 39) rfl rfl (base := w0.heap.size) (L := Oc) (L2 := [x]) rfl (HO.out.2.next (below_alloc wr _)) (by have := HO.out.1.size; simp; omega) rfl (one_int rfl HXB.out) (by rw [← HON.out]; simp; omega) ?_)
        intro o' w2 ht
        have HO2 : Hid (OwnI w0 (putN l x) o' w2) := Lib.hid (by rw [HE.out]; exact (HO.out.next (below_alloc wr _)).turned ht)
        clear ht
        go_wp2_with fail
        go_ret
        exact ⟨_, rfl, HO2.out⟩
end Go.Proofs.Ytfdlpmphgojlhaa.M

/- Part: MmZ. -/
namespace Go.Proofs.Ytfdlpmphgojlhaa.M

def In2 (c : Cf) (x : Int) : Prop := x ∈ c.v ∨ x ∈ c.l

theorem putN_last {l : List Int} {x : Int} (h : ∀ y ∈ l, y < x) : putN l x = l ++ [x] := by
  have := putN_split (a := l) (b := []) (x := x) fun y hy => by have := h y hy; omega
  simpa [putN] using this

/-- One that takes part goes, unless it is the only voter. -/
theorem walk_rem {c : Cf} (hc : c.ok) {x : Int} (hx : In2 c x) (h1 : ¬ (x ∈ c.v ∧ c.v.length = 1)) :
    (next1 c 3 x).2 = 0 ∧ (∀ y, In2 (next1 c 3 x).1 y ↔ In2 c y ∧ y ≠ x) ∧ (next1 c 3 x).1.v = dropN c.v x ∧ (next1 c 3 x).1.l = dropN c.l x := by
  have hi : okN x := by
    rcases hx with h | h
    · exact hc.2.2.1.1 x h
    · exact hc.2.2.2.1.1 x h
  have e := next1_rem (c := c) rfl hi hx h1
  rw [e]
  refine ⟨rfl, fun y => ?_, rfl, rfl⟩
  unfold In2
  simp only [dropN_mem]
  constructor
  · rintro (h | h)
    · exact ⟨.inl h.1, h.2⟩
    · exact ⟨.inr h.1, h.2⟩
  · rintro ⟨h | h, h2⟩
    · exact .inl ⟨h, h2⟩
    · exact .inr ⟨h, h2⟩

theorem walk_last {a : Cf} (ha : a.ok) (h9 : 9 ≤ a.v.length + a.l.length) {x : Int} (hx : x = (a.v ++ a.l).getD (a.v.length + a.l.length - 1) 0) :
    In2 a x ∧ ¬ (x ∈ a.v ∧ a.v.length = 1) := by
  have hlt : a.v.length + a.l.length - 1 < (a.v ++ a.l).length := by simp; omega
  have hx2 : x = (a.v ++ a.l)[a.v.length + a.l.length - 1] := by rw [hx, List.getD_eq_getElem?_getD, List.getElem?_eq_getElem hlt]; rfl
  refine ⟨?_, ?_⟩
  · have : x ∈ a.v ++ a.l := by rw [hx2]; exact List.getElem_mem hlt
    exact List.mem_append.1 this
  · rintro ⟨h1, h2⟩
    have h3 : x ∈ a.l := by
      rw [hx2, List.getElem_append_right (by omega)]
      exact List.getElem_mem _
    exact ha.2.2.2.2 x h3 h1

theorem walk_add {c : Cf} {x : Int} (hi : okN x) (h : ¬ In2 c x) (hs : c.v.length + c.l.length < 9) : (next1 c 1 x).2 = 0 ∧ (next1 c 1 x).1 = ⟨c.v, putN c.l x⟩ := by
  rw [next1_add rfl hi (fun e => h (.inl e)) (fun e => h (.inr e)) hs]
  exact ⟨rfl, rfl⟩

theorem walk_pro {c : Cf} {x : Int} (hi : okN x) (h : x ∈ c.l) : (next1 c 2 x).2 = 0 ∧ (next1 c 2 x).1 = ⟨putN c.v x, dropN c.l x⟩ := by
  rw [next1_pro rfl hi h]
  exact ⟨rfl, rfl⟩

/-- The one that is kept votes; of the others only some are left. -/
def Rest (keep : Int) (all : List Int) (i : Nat) (c : Cf) : Prop := c.ok ∧ keep ∈ c.v ∧ ∀ x, In2 c x → x = keep ∨ x ∈ all.drop i

theorem Rest.skip {keep : Int} {all : List Int} {i : Nat} {c : Cf} (h : Rest keep all i c) (hi : i < all.length) (hx : ¬ (In2 c all[i] ∧ all[i] ≠ keep)) : Rest keep all (i + 1) c := by
  refine ⟨h.1, h.2.1, fun x hc => ?_⟩
  rcases h.2.2 x hc with h1 | h1
  · exact .inl h1
  · rw [List.drop_eq_getElem_cons hi] at h1
    rcases List.mem_cons.1 h1 with h2 | h2
    · subst h2
      by_cases hk : all[i] = keep
      · exact .inl hk
      · exact absurd ⟨hc, hk⟩ hx
    · exact .inr h2

theorem Rest.step {keep : Int} {all : List Int} {i : Nat} {c : Cf} (h : Rest keep all i c) (hi : i < all.length) (hx : In2 c all[i]) (hk : all[i] ≠ keep) : (next1 c 3 all[i]).2 = 0 ∧ Rest keep all (i + 1) (next1 c 3 all[i]).1 := by
  have hnot : ¬ (all[i] ∈ c.v ∧ c.v.length = 1) := by
    rintro ⟨h1, h2⟩
    obtain ⟨y, hy⟩ := List.length_eq_one_iff.1 h2
    have h3 := h.2.1
    rw [hy] at h1 h3
    simp at h1 h3
    exact hk (h1.trans h3.symm)
  obtain ⟨h0, h1, h2, h3⟩ := walk_rem h.1 hx hnot
  refine ⟨h0, next1_ok h.1 h0, ?_, fun x hc => ?_⟩
  · rw [h2]; exact dropN_mem.2 ⟨h.2.1, fun e => hk e.symm⟩
  · obtain ⟨h4, h5⟩ := (h1 x).1 hc
    rcases h.2.2 x h4 with h6 | h6
    · exact .inl h6
    · rw [List.drop_eq_getElem_cons hi] at h6
      rcases List.mem_cons.1 h6 with h7 | h7
      · exact absurd h7 h5
      · exact .inr h7

theorem Rest.end {keep : Int} {all : List Int} {c : Cf} (h : Rest keep all all.length c) : c = ⟨[keep], []⟩ := by
  obtain ⟨h1, h2, h3⟩ := h
  have h4 : ∀ x, In2 c x → x = keep := fun x hx => by
    rcases h3 x hx with h | h
    · exact h
    · simp at h
  obtain ⟨v, l⟩ := c
  have hl : l = [] := by
    rcases l with - | ⟨y, r⟩
    · rfl
    · have := h4 y (.inr (by simp))
      subst this
      exact absurd h2 (h1.2.2.2.2 y (by simp))
  have hv : v = [keep] := by
    have hp := h1.2.2.1.2
    rcases v with - | ⟨y, - | ⟨z, r⟩⟩
    · simp at h2
    · rw [h4 y (.inl (by simp))]
    · have e1 := h4 y (.inl (by simp))
      have e2 := h4 z (.inl (by simp))
      have := (List.pairwise_cons.1 hp).1 z (by simp)
      omega
  rw [hl, hv]

/-- The voters that have come. -/
theorem grow_v {b : Cf} (hb : b.ok) {i : Nat} (hi : i < b.v.length) (h1 : 1 ≤ i) :
    let c : Cf := ⟨b.v.take i, []⟩
    c.ok ∧ b.v[i] ≠ b.v.getD 0 0 ∧ (next1 c 1 b.v[i]).2 = 0 ∧ (next1 c 1 b.v[i]).1.ok ∧ (next1 (next1 c 1 b.v[i]).1 2 b.v[i]).2 = 0 ∧ (next1 (next1 c 1 b.v[i]).1 2 b.v[i]).1 = ⟨b.v.take (i + 1), []⟩ := by
  intro c
  have hp := hb.2.2.1.2
  have hok : okN b.v[i] := hb.2.2.1.1 _ (List.getElem_mem hi)
  have hlt : ∀ y ∈ b.v.take i, y < b.v[i] := fun y hy => by
    obtain ⟨j, hj, rfl⟩ := List.mem_iff_getElem.1 hy
    have hj2 : j < i := by simp at hj; omega
    rw [List.getElem_take]
    exact List.pairwise_iff_getElem.1 hp j i (by omega) hi hj2
  have hlen : (b.v.take i).length = i := by simp; omega
  have h9 := hb.2.1
  have hcok : c.ok := ⟨fun e => by have := congrArg List.length e; rw [hlen] at this; simp at this; omega, by show (b.v.take i).length + 0 ≤ 9; omega, hb.2.2.1.take i, Rise.nil, fun x hx => by simp [c] at hx⟩
  have hno : ¬ In2 c b.v[i] := by
    rintro (h | h)
    · have := hlt _ h; omega
    · simp [c] at h
  obtain ⟨a1, a2⟩ := walk_add (c := c) hok hno (by show (b.v.take i).length + 0 < 9; omega)
  have hok1 := next1_ok hcok a1
  have hput : putN c.l b.v[i] = [b.v[i]] := rfl
  rw [hput] at a2
  obtain ⟨p1, p2⟩ := walk_pro (c := (next1 c 1 b.v[i]).1) hok (by rw [a2]; simp)
  refine ⟨hcok, ?_, a1, hok1, p1, ?_⟩
  · rw [List.getD_eq_getElem?_getD, List.getElem?_eq_getElem (by omega)]
    have := List.pairwise_iff_getElem.1 hp 0 i (by omega) hi (by omega)
    simp only [Option.getD_some]
    omega
  · rw [p2, a2]
    show (⟨putN (b.v.take i) b.v[i], dropN [b.v[i]] b.v[i]⟩ : Cf) = _
    rw [putN_last hlt, ← take_snoc hi]
    simp [dropN]

/-- .. and the learners. -/
theorem grow_l {b : Cf} (hb : b.ok) {i : Nat} (hi : i < b.l.length) :
    let c : Cf := ⟨b.v, b.l.take i⟩
    c.ok ∧ (next1 c 1 b.l[i]).2 = 0 ∧ (next1 c 1 b.l[i]).1 = ⟨b.v, b.l.take (i + 1)⟩ := by
  intro c
  have hp := hb.2.2.2.1.2
  have hok : okN b.l[i] := hb.2.2.2.1.1 _ (List.getElem_mem hi)
  have hlt : ∀ y ∈ b.l.take i, y < b.l[i] := fun y hy => by
    obtain ⟨j, hj, rfl⟩ := List.mem_iff_getElem.1 hy
    have hj2 : j < i := by simp at hj; omega
    rw [List.getElem_take]
    exact List.pairwise_iff_getElem.1 hp j i (by omega) hi hj2
  have hlen : (b.l.take i).length = i := by simp; omega
  have h9 := hb.2.1
  have hcok : c.ok := ⟨hb.1, by show b.v.length + (b.l.take i).length ≤ 9; omega, hb.2.2.1, hb.2.2.2.1.take i, fun x hx => hb.2.2.2.2 x (List.mem_of_mem_take hx)⟩
  have hno : ¬ In2 c b.l[i] := by
    rintro (h | h)
    · exact hb.2.2.2.2 _ (List.getElem_mem hi) h
    · have := hlt _ h; omega
  obtain ⟨a1, a2⟩ := walk_add (c := c) hok hno (by show b.v.length + (b.l.take i).length < 9; omega)
  refine ⟨hcok, a1, ?_⟩
  rw [a2]
  show (⟨b.v, putN (b.l.take i) b.l[i]⟩ : Cf) = _
  rw [putN_last hlt, ← take_snoc hi]
end Go.Proofs.Ytfdlpmphgojlhaa.M
