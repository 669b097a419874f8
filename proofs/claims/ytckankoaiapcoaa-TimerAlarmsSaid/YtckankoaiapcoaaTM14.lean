/- The document's alarms: a list by rising times. The document's Set. -/
import Derived.Test.YtckankoaiapcoaaTM8
import Derived.Lib.Hide
/- Part: TmR. -/
namespace Go.Proofs.Ytckankoaiapcoaa.M
open Go.RowKit
open Tm (Al at' alt srt setS clrS insS Uq)

/-- A slice of the document's alarms. -/
def RepA (w : World) (F : Nat → Prop) (l : List Al) (v : Value) : Prop :=
  (l = [] ∧ Bare v) ∨ ∃ b off c, v = .slice (some ⟨b, off, none⟩) l.length c ∧ F b ∧ l.length ≤ c ∧ c ≤ 9223372036854775807 ∧
    ∀ (i : Nat), i < l.length → w.cell? ⟨b, off + i * 2, none⟩ = some (.int .i64 (at' l i).1) ∧ w.cell? ⟨b, off + i * 2 + 1, none⟩ = some (.int .i64 (at' l i).2)

theorem RepA.same {w w' : World} {F G : Nat → Prop} (hF : ∀ k, F k → G k) (hw : ∀ k, F k → w'.heap[k]? = w.heap[k]?) {l : List Al} {v : Value} (h : RepA w F l v) : RepA w' G l v := by
  rcases h with h | ⟨b, off, c, hv, hb, hl, hm, hc⟩
  · exact .inl h
  · exact .inr ⟨b, off, c, hv, hF b hb, hl, hm, fun i hi => ⟨by rw [World.cell?_of_block (by exact hw b hb)]; exact (hc i hi).1, by rw [World.cell?_of_block (by exact hw b hb)]; exact (hc i hi).2⟩⟩

theorem RepA.slice {w : World} {F : Nat → Prop} {l : List Al} {v : Value} (h : RepA w F l v) : ∃ a c, v = .slice a l.length c ∧ l.length ≤ 9223372036854775807 := by
  rcases h with ⟨rfl, a, c, rfl, _⟩ | ⟨b, off, c, rfl, _, h1, h2, _⟩
  · exact ⟨a, c, rfl, by simp⟩
  · exact ⟨_, c, rfl, by omega⟩

theorem RepA.elem {w : World} {F : Nat → Prop} {l : List Al} {a : Option Addr} {n c : Nat} (h : RepA w F l (.slice a n c)) (i : Nat) (hi : i < l.length) :
    ∃ b off, a = some ⟨b, off, none⟩ ∧ F b ∧ w.cell? ⟨b, off + i * 2, none⟩ = some (.int .i64 (at' l i).1) ∧ w.cell? ⟨b, off + i * 2 + 1, none⟩ = some (.int .i64 (at' l i).2) := by
  rcases h with ⟨h, _⟩ | ⟨b, off, c', h, hb, _, _, hc⟩
  · rw [h] at hi; simp at hi
  · cases h
    exact ⟨b, off, rfl, hb, hc i hi⟩

theorem infoRefAlarm : (Try.prog.info? 52).map (fun i => (i.zero, i.size, i.bytes)) = some (some (.agg #[.int .i64 0, .int .i64 0]), 2, 16) := by kernel_rfl

/-- Since w nothing that was there has turned, and v is a row of the call's own. -/
def OwnA (w : World) (l : List Al) (v : Value) (wr : World) : Prop := Below w.heap.size w wr ∧ wr.ownsRow w.heap.size 52 2 v l.length (alCells l)

theorem OwnA.bare {w wr : World} (h : Below w.heap.size w wr) : OwnA w [] (.slice none 0 0) wr := ⟨h, World.ownsRow_nil _ _ _ _⟩

theorem OwnA.next {w wr w' : World} {l : List Al} {v : Value} (h : OwnA w l v wr) (hb : Below wr.heap.size wr w') : OwnA w l v w' :=
  ⟨h.1.trans (hb.mono h.1.size), ownsRow_same h.2 fun k hk => hb.block k (h.2.lt k hk).2⟩

theorem OwnA.slice {w wr : World} {l : List Al} {v : Value} (h : OwnA w l v wr) : ∃ a c, v = .slice a l.length c := owned_slice h.2

theorem OwnA.rep {w wr : World} {l : List Al} {v : Value} (h : OwnA w l v wr) : RepA wr (fun b => w.heap.size ≤ b ∧ b < wr.heap.size) l v := by
  have hl := alCells_length l
  rcases h.2.2 with ⟨h1, h2⟩ | ⟨g, cap, cur, hv, hg, hcur, hn, hm, hs, ht⟩
  · exact .inl ⟨List.length_eq_zero_iff.1 h2, by rw [h1]; exact Bare.nil⟩
  · refine .inr ⟨g, 0, cap, hv, ⟨hg, lt_of_heap hcur⟩, hn, by unfold maxLen at hm; omega, fun i hi => ?_⟩
    have hg2 := alCells_get l i hi
    subst hv
    rw [Nat.zero_add]
    refine ⟨?_, ?_⟩
    · rw [h.2.cellAt (i * 2) (by omega)]; exact hg2.1
    · rw [h.2.cellAt (i * 2 + 1) (by omega)]; exact hg2.2

theorem OwnA.after {w w1 wr : World} {l : List Al} {v : Value} (hb : Below w.heap.size w w1) (h : OwnA w1 l v wr) : OwnA w l v wr :=
  ⟨hb.trans (h.1.mono hb.size), by
    obtain ⟨h1, h2 | ⟨g, cap, cur, hv, hg, hcur, h3⟩⟩ := h.2
    · exact ⟨h1, .inl h2⟩
    · exact ⟨h1, .inr ⟨g, cap, cur, hv, Nat.le_trans hb.size hg, hcur, h3⟩⟩⟩

/-- One more at the end. -/
theorem wpList_oa_append {w wr : World} {ops : Array Oper} {rest : List Oper} {o : Oper} {a : Act} {Q : Exit → Act → World → Prop} (hgd : o.guard = none) (s y : Operand)
    (ho : o.op = .call { callee := .builtin .append, args := #[s, y], argTypes := #[43, 43] }) (_hty : o.type = 43)
    {L : List Al} {x : Al} {v : Value} {g : Nat} {t : TypeId} (hs : a.eval s = v) (hown : OwnA w L v wr) (hg : g = wr.heap.size) (hy : a.eval y = .slice (some ⟨g, 0, none⟩) 1 1) (hl : L.length ≤ 1000000)
    (h : ∀ v' w', OwnA w (L ++ [x]) v' w' → wpList Try.prog ops Q rest (a.put o.dst v') w') : wpList Try.prog ops Q (o :: rest) a (wr.alloc (.cells #[.int .i64 x.1, .int .i64 x.2] t)) := by
  obtain ⟨ib, hib, hib0, hib1, hib2⟩ := info_parts infoRefAlarm
  have hown2 := hown.next (below_alloc wr (.cells #[.int .i64 x.1, .int .i64 x.2] t))
  have hblk : (wr.alloc (.cells #[.int .i64 x.1, .int .i64 x.2] t)).heap[g]? = some (.cells #[.int .i64 x.1, .int .i64 x.2] t) := heap_new _ _ _ hg
  have hal : alCells (L ++ [x]) = alCells L ++ [.int .i64 x.1, .int .i64 x.2] := by unfold alCells; rw [List.flatMap_append]; rfl
  exact wpList_append_any _ hgd s y 43 ho w.heap.size 52 ib (.agg #[.int .i64 0, .int .i64 0]) 2 16 Try.underlying43 hib hib0 hib1 hib2 rfl (by decide) v L.length (alCells L) hs hown2.2 (.slice (some ⟨g, 0, none⟩) 1 1) hy 1 [.int .i64 x.1, .int .i64 x.2]
    ⟨rfl, by intro u hu; simp at hu; rcases hu with rfl | rfl <;> rfl, .inr ⟨_, _, rfl, fun j u hj => by
      obtain ⟨c0, c1, _⟩ := block2' hblk
      match j, hj with
      | 0, hj => cases hj; exact c0
      | 1, hj => cases hj; exact c1⟩⟩ (by unfold maxLen; omega) (by omega) hown2.1.size fun v' w' ha => h v' w' ⟨hown2.1.grown ha.2.1 hown2.1.size (fun j hj => (hown2.2.lt j hj).1), by
      rw [hal, List.length_append]
      exact ha.1⟩

theorem clr_take {l : List Al} {key : Int} {k : Nat} (hk : k < l.length) : clrS (l.take (k + 1)) key = if (at' l k).2 != key then clrS (l.take k) key ++ [at' l k] else clrS (l.take k) key := by
  unfold Tm.clrS
  rw [List.take_succ_eq_append_getElem hk, List.filter_append, Tm.at_eq hk]
  by_cases h : (l[k].2 != key) = true
  · rw [if_pos h, List.filter_cons_of_pos (by simpa using h)]; rfl
  · rw [if_neg h, List.filter_cons_of_neg (by simpa using h)]; simp

set_option maxRecDepth 20000 in
set_option maxHeartbeats 1600000 in
theorem RefClear_any (l : List Al) (key : Int) (v : Value) (F : Nat → Prop) (hl : l.length ≤ 1000000) (w : World) (h : RepA w F l v) (hF : ∀ k, F k → k < w.heap.size) :
    Calls Try.prog 19 #[v, .int .i64 key] w fun e w' => ∃ v', e = .returned v' ∧ OwnA w (clrS l key) v' w' := by
  obtain ⟨va, vc, rfl, hvl⟩ := h.slice
  obtain ⟨n, hn⟩ : ∃ n, n = l.length := ⟨_, rfl⟩
  have HN := Lib.hid hn
  have HR := Lib.hid h
  have HFF := Lib.hid hF
  rw [← hn] at hvl hl ⊢
  clear h hn hF
  go_enter Try.func19, Try.ntmps19
  go_wp2_with fail
  go_loopw [5, 6] (fun sv i wr => ∃ k : Nat, k ≤ n ∧ i = .int .i64 (k : Int) ∧ Hid (OwnA w (clrS (l.take k) key) sv wr)) (fun _ i _ => n - (intOf i).toNat)
  case atStart => exact ⟨0, Nat.zero_le _, rfl, Lib.hid (OwnA.bare (Below.refl _ _))⟩
  case round =>
    obtain ⟨k, hk, rfl, HO⟩ := hrel
    obtain ⟨oa, oc, hov⟩ := HO.out.slice
    obtain ⟨m, hm⟩ : ∃ m, m = (clrS (l.take k) key).length := ⟨_, rfl⟩
    have hml : m ≤ n := by
      rw [hm]
      have := List.length_filter_le (fun x : Al => x.2 != key) (l.take k)
      rw [List.length_take] at this
      unfold Tm.clrS
      omega
    rw [← hm] at hov
    subst hov
    by_cases hlt : k < n
    · have hkk : (k : Int) < (n : Int) := by omega
      have hk2 : k < l.length := by rw [← HN.out]; exact hlt
      obtain ⟨b, off, rfl, -, e0, e1⟩ := (HR.out.same (fun _ h => h) fun q hq => HO.out.1.block q (HFF.out q hq)).elem k hk2
      obtain ⟨x1, hx1⟩ : ∃ x, x = (at' l k).1 := ⟨_, rfl⟩
      obtain ⟨x2, hx2⟩ : ∃ x, x = (at' l k).2 := ⟨_, rfl⟩
      have HNX := clr_take (key := key) hk2
      have hat : at' l k = (x1, x2) := by rw [hx1, hx2]
      rw [hat] at HNX
      rw [← hx1] at e0
      rw [← hx2] at e1
      simp only at HNX
      cases q0 : (x2 != key) with
      | true =>
        rw [q0, if_pos rfl] at HNX
        have HNX := Lib.hid HNX
        have HML := Lib.hid hm
        clear hx1 hx2 hat hk2 hm
        go_wp2_with (at_builtin; refine wpList_oa_append (x := (x1, x2)) rfl (.tmp 20) (.tmp 25) rfl rfl rfl HO.out rfl rfl (by rw [← HML.out]; omega) ?_)
        intro v4 w4 ho4
        rw [← HNX.out] at ho4
        have HO4 := Lib.hid ho4
        clear ho4
        go_wp2_with fail
        go_roundw
        case rel => exact ⟨k + 1, by omega, by go_num, HO4⟩
        case measure => simp only [intOf]; omega
      | false =>
        rw [q0, if_neg (by simp)] at HNX
        have HO4 : Hid (OwnA w (clrS (l.take (k + 1)) key) (.slice oa m oc) wr) := Lib.hid (by rw [HNX, hm]; have := HO.out; rw [hm] at this; exact this)
        clear hx1 hx2 hat hk2 hm HNX
        go_wp2_with fail
        go_roundw
        case rel => exact ⟨k + 1, by omega, by go_num, HO4⟩
        case measure => simp only [intOf]; omega
    · obtain rfl : k = n := by omega
      have hkk : ¬ ((k : Nat) : Int) < (k : Int) := by omega
      have HD : Hid (OwnA w (clrS l key) (.slice oa m oc) wr) := Lib.hid (by have := HO.out; rw [HN.out, List.take_length] at this; exact this)
      clear HO hm
      go_wp2_with fail
      go_ret
      exact ⟨_, rfl, HD.out⟩

theorem ins_none {a : Al} : ∀ {t : List Al}, (∀ x ∈ t, alt a x = false) → insS a t = t ++ [a]
  | [], _ => rfl
  | b :: r, h => by
    unfold Tm.insS
    rw [if_neg (by rw [h b (by simp)]; simp), ins_none fun x hx => h x (by simp [hx])]
    rfl

theorem ins_new {a b : Al} : ∀ {t : List Al}, (∀ x ∈ t, alt a x = false) → alt a b = true → insS a (t ++ [b]) = t ++ [a, b]
  | [], _, hb => by
    show insS a [b] = _
    unfold Tm.insS
    rw [if_pos hb]
    rfl
  | c :: r, h, hb => by
    show insS a (c :: (r ++ [b])) = _
    unfold Tm.insS
    rw [if_neg (by rw [h c (by simp)]; simp), ins_new (fun x hx => h x (by simp [hx])) hb]
    rfl

theorem ins_done {a b : Al} : ∀ {t : List Al}, (∃ x ∈ t, alt a x = true) → insS a (t ++ [b]) = insS a t ++ [b]
  | [], h => by obtain ⟨x, hx, _⟩ := h; simp at hx
  | c :: r, h => by
    show insS a (c :: (r ++ [b])) = insS a (c :: r) ++ [b]
    unfold Tm.insS
    by_cases hc : alt a c = true
    · rw [if_pos hc, if_pos hc]; rfl
    · rw [if_neg hc, if_neg hc, ins_done (t := r)]
      · rfl
      · obtain ⟨x, hx, hx2⟩ := h
        rcases List.mem_cons.1 hx with rfl | hx
        · exact absurd hx2 hc
        · exact ⟨x, hx, hx2⟩
end Go.Proofs.Ytckankoaiapcoaa.M

/- Part: TmS. -/
namespace Go.Proofs.Ytckankoaiapcoaa.M
open Go.RowKit
open Tm (Al at' alt srt setS clrS insS Uq)

/-- How far an insertion is. -/
def InsAt (a : Al) (t out : List Al) (dn : Bool) : Prop :=
  (dn = true → (∃ x ∈ t, alt a x = true) ∧ out = insS a t) ∧ (dn = false → (∀ x ∈ t, alt a x = false) ∧ out = t)

theorem InsAt.len {a : Al} {t out : List Al} {dn : Bool} (h : InsAt a t out dn) : out.length ≤ t.length + 1 := by
  cases dn with
  | true => rw [(h.1 rfl).2, Tm.ins_length]; omega
  | false => rw [(h.2 rfl).2]; omega

theorem InsAt.keep {a b : Al} {t out : List Al} (h : InsAt a t out true) : InsAt a (t ++ [b]) (out ++ [b]) true := by
  obtain ⟨⟨x, hx, h2⟩, h3⟩ := h.1 rfl
  refine ⟨fun _ => ⟨⟨x, by simp [hx], h2⟩, ?_⟩, fun h => by cases h⟩
  rw [h3, ins_done ⟨x, hx, h2⟩]

theorem InsAt.pass {a b : Al} {t out : List Al} (h : InsAt a t out false) (hb : alt a b = false) : InsAt a (t ++ [b]) (out ++ [b]) false := by
  obtain ⟨h1, h2⟩ := h.2 rfl
  refine ⟨fun h => (by cases h), fun _ => ⟨fun x hx => ?_, by rw [h2]⟩⟩
  rcases List.mem_append.1 hx with hx | hx
  · exact h1 x hx
  · simp at hx; subst hx; exact hb

theorem InsAt.new {a b : Al} {t out : List Al} (h : InsAt a t out false) (hb : alt a b = true) : InsAt a (t ++ [b]) ((out ++ [a]) ++ [b]) true := by
  obtain ⟨h1, h2⟩ := h.2 rfl
  refine ⟨fun _ => ⟨⟨b, by simp, hb⟩, ?_⟩, fun h => by cases h⟩
  rw [h2, ins_new h1 hb, List.append_assoc]; rfl



set_option maxRecDepth 20000 in
set_option maxHeartbeats 3200000 in
theorem RefSet_any (l : List Al) (t key : Int) (v : Value) (F : Nat → Prop) (hl : l.length ≤ 100000) (w : World) (h : RepA w F l v) (hF : ∀ k, F k → k < w.heap.size) :
    Calls Try.prog 17 #[v, .int .i64 t, .int .i64 key] w fun e w' => ∃ v', e = .returned v' ∧ OwnA w (setS l t key) v' w' := by
  have HC := Lib.hid (RefClear_any l key v F (by omega) w h hF)
  obtain ⟨l1, hl1⟩ : ∃ l1, l1 = clrS l key := ⟨_, rfl⟩
  have hll : l1.length ≤ 100000 := by
    rw [hl1]
    have := List.length_filter_le (fun x : Al => x.2 != key) l
    unfold Tm.clrS
    omega
  have HS : Hid (setS l t key = insS (t, key) l1) := Lib.hid (by rw [hl1]; rfl)
  rw [← hl1] at HC
  obtain ⟨n, hn⟩ : ∃ n, n = l1.length := ⟨_, rfl⟩
  rw [← hn] at hll
  have HN := Lib.hid hn
  obtain ⟨sl, hsl⟩ : ∃ sl, sl = setS l t key := ⟨_, rfl⟩
  rw [← hsl] at HS ⊢
  clear h hF hl hl1 hn hsl
  go_enter Try.func17, Try.ntmps17
  go_wp2_with fail
  refine HC.out.mono ?_
  rintro e w1 ⟨v1, rfl, ho1⟩
  obtain ⟨a1, c1, rfl⟩ := ho1.slice
  rw [← HN.out]
  have HO1 := Lib.hid ho1
  clear ho1 HC
  go_wp2_with fail
  go_loopw [7, 8, 9] (fun sv dv i wr => ∃ (k : Nat) (dn : Bool), k ≤ n ∧ i = .int .i64 (k : Int) ∧ dv = .bool dn ∧ Hid (∃ out, OwnA w1 out sv wr ∧ InsAt (t, key) (l1.take k) out dn)) (fun _ _ i _ => n - (intOf i).toNat)
  case atStart => exact ⟨0, false, Nat.zero_le _, rfl, rfl, Lib.hid ⟨[], OwnA.bare (Below.refl _ _), fun h => (by cases h), fun _ => ⟨fun x hx => by simp at hx, by simp⟩⟩⟩
  case round =>
    obtain ⟨k, dn, hk, rfl, rfl, HE⟩ := hrel
    obtain ⟨out, hout, hins⟩ := HE.out
    obtain ⟨oa, oc, hov⟩ := hout.slice
    obtain ⟨m, hm⟩ : ∃ m, m = out.length := ⟨_, rfl⟩
    have hml : m ≤ n + 1 := by
      have := hins.len
      rw [List.length_take] at this
      omega
    rw [← hm] at hov
    subst hov
    have HO := Lib.hid hout
    have HML := Lib.hid hm
    by_cases hlt : k < n
    · have hkk : (k : Int) < (n : Int) := by omega
      have hk2 : k < l1.length := by rw [← HN.out]; exact hlt
      have hrep := HO1.out.rep.same (G := fun b => b < w1.heap.size) (fun b hb => hb.2) fun b hb => hout.1.block b hb.2
      rw [← HN.out] at hrep
      obtain ⟨b, off, rfl, -, e0, e1⟩ := hrep.elem k hk2
      obtain ⟨x1, hx1⟩ : ∃ x, x = (at' l1 k).1 := ⟨_, rfl⟩
      obtain ⟨x2, hx2⟩ : ∃ x, x = (at' l1 k).2 := ⟨_, rfl⟩
      have hat : at' l1 k = (x1, x2) := by rw [hx1, hx2]
      have HAT := Lib.hid hat
      have HTK : Hid (l1.take (k + 1) = l1.take k ++ [(x1, x2)]) := Lib.hid (by rw [List.take_succ_eq_append_getElem hk2, ← hat, Tm.at_eq hk2])
      rw [← hx1] at e0
      rw [← hx2] at e1
      have hml2 : out.length ≤ 1000000 := by omega
      have HML2 := Lib.hid hml2
      clear hx1 hx2 hat hk2 hm hml2 hrep hout
      cases dn with
      | true =>
        have HFIN : Hid (InsAt (t, key) (l1.take k ++ [(x1, x2)]) (out ++ [(x1, x2)]) true) := Lib.hid hins.keep
        clear hins
        go_wp2_with (at_builtin; refine wpList_oa_append (x := (x1, x2)) rfl (.tmp 54) (.tmp 59) rfl rfl rfl HO.out rfl rfl HML2.out ?_)
        intro v6 w6 ho6
        have HO6 := Lib.hid ho6
        clear ho6
        go_wp2_with fail
        go_roundw
        case rel => exact ⟨k + 1, _, by omega, by go_num, rfl, Lib.hid ⟨_, HO6.out, by rw [HTK.out]; first | exact HFIN.out | (have h7 := HFIN.out; rw [List.append_assoc] at h7; exact h7)⟩⟩
        case measure => simp only [intOf]; omega
      | false =>
        have HALT : Hid (alt (t, key) (x1, x2) = (decide (t < x1) || (decide (t = x1) && decide (key < x2)))) := Lib.hid rfl
        cases q1 : decide (t < x1) with
        | true =>
          have HFIN : Hid (InsAt (t, key) (l1.take k ++ [(x1, x2)]) ((out ++ [(t, key)]) ++ [(x1, x2)]) true) := Lib.hid (hins.new (by rw [HALT.out, q1]; rfl))
          clear hins
          go_wp2_with (at_builtin; refine wpList_oa_append (x := (t, key)) rfl (.tmp 48) (.tmp 52) rfl rfl rfl HO.out rfl rfl HML2.out ?_)
          intro v5 w5 ho5
          obtain ⟨pa, pc, hpv⟩ := ho5.slice
          obtain ⟨m5, hm5⟩ : ∃ m5, m5 = (out ++ [(t, key)]).length := ⟨_, rfl⟩
          rw [← hm5] at hpv
          subst hpv
          have HO5 := Lib.hid ho5
          have HM5 : Hid ((out ++ [(t, key)]).length ≤ 1000000) := Lib.hid (by rw [List.length_append]; have := HML.out; have : [(t, key)].length = 1 := rfl; omega)
          obtain ⟨b5, off5, hbo, -, f0, f1⟩ := (HO1.out.rep.same (G := fun b => b < w1.heap.size) (fun b hb => hb.2) fun b hb => ho5.1.block b hb.2).elem k (by rw [← HN.out]; exact hlt)
          cases hbo
          rw [HAT.out] at f0 f1
          clear ho5 hm5 e0 e1
          go_wp2_with (at_builtin; refine wpList_oa_append (x := (x1, x2)) rfl (.tmp 54) (.tmp 59) rfl rfl rfl HO5.out rfl rfl HM5.out ?_)
          intro v6 w6 ho6
          have HO6 := Lib.hid ho6
          clear ho6
          go_wp2_with fail
          go_roundw
          case rel => exact ⟨k + 1, _, by omega, by go_num, rfl, Lib.hid ⟨_, HO6.out, by rw [HTK.out]; first | exact HFIN.out | (have h7 := HFIN.out; rw [List.append_assoc] at h7; exact h7)⟩⟩
          case measure => simp only [intOf]; omega
        | false =>
          by_cases q0 : t = x1
          · have q2 : (x1 == t) = true := by simp [q0]
            cases q3 : decide (key < x2) with
            | true =>
              have HFIN : Hid (InsAt (t, key) (l1.take k ++ [(x1, x2)]) ((out ++ [(t, key)]) ++ [(x1, x2)]) true) := Lib.hid (hins.new (by rw [HALT.out, q1, q3, decide_eq_true q0]; rfl))
              clear hins q0
              go_wp2_with (at_builtin; refine wpList_oa_append (x := (t, key)) rfl (.tmp 48) (.tmp 52) rfl rfl rfl HO.out rfl rfl HML2.out ?_)
              intro v5 w5 ho5
              obtain ⟨pa, pc, hpv⟩ := ho5.slice
              obtain ⟨m5, hm5⟩ : ∃ m5, m5 = (out ++ [(t, key)]).length := ⟨_, rfl⟩
              rw [← hm5] at hpv
              subst hpv
              have HO5 := Lib.hid ho5
              have HM5 : Hid ((out ++ [(t, key)]).length ≤ 1000000) := Lib.hid (by rw [List.length_append]; have := HML.out; have : [(t, key)].length = 1 := rfl; omega)
              obtain ⟨b5, off5, hbo, -, f0, f1⟩ := (HO1.out.rep.same (G := fun b => b < w1.heap.size) (fun b hb => hb.2) fun b hb => ho5.1.block b hb.2).elem k (by rw [← HN.out]; exact hlt)
              cases hbo
              rw [HAT.out] at f0 f1
              clear ho5 hm5 e0 e1
              go_wp2_with (at_builtin; refine wpList_oa_append (x := (x1, x2)) rfl (.tmp 54) (.tmp 59) rfl rfl rfl HO5.out rfl rfl HM5.out ?_)
              intro v6 w6 ho6
              have HO6 := Lib.hid ho6
              clear ho6
              go_wp2_with fail
              go_roundw
              case rel => exact ⟨k + 1, _, by omega, by go_num, rfl, Lib.hid ⟨_, HO6.out, by rw [HTK.out]; first | exact HFIN.out | (have h7 := HFIN.out; rw [List.append_assoc] at h7; exact h7)⟩⟩
              case measure => simp only [intOf]; omega
            | false =>
              have HFIN : Hid (InsAt (t, key) (l1.take k ++ [(x1, x2)]) (out ++ [(x1, x2)]) false) := Lib.hid (hins.pass (by rw [HALT.out, q1, q3, decide_eq_true q0]; rfl))
              clear hins q0
              go_wp2_with (at_builtin; refine wpList_oa_append (x := (x1, x2)) rfl (.tmp 54) (.tmp 59) rfl rfl rfl HO.out rfl rfl HML2.out ?_)
              intro v6 w6 ho6
              have HO6 := Lib.hid ho6
              clear ho6
              go_wp2_with fail
              go_roundw
              case rel => exact ⟨k + 1, _, by omega, by go_num, rfl, Lib.hid ⟨_, HO6.out, by rw [HTK.out]; first | exact HFIN.out | (have h7 := HFIN.out; rw [List.append_assoc] at h7; exact h7)⟩⟩
              case measure => simp only [intOf]; omega
          · have q2 : (x1 == t) = false := by simp; exact fun h => q0 h.symm
            have HFIN : Hid (InsAt (t, key) (l1.take k ++ [(x1, x2)]) (out ++ [(x1, x2)]) false) := Lib.hid (hins.pass (by rw [HALT.out, q1, decide_eq_false q0]; rfl))
            clear hins q0
            go_wp2_with (at_builtin; refine wpList_oa_append (x := (x1, x2)) rfl (.tmp 54) (.tmp 59) rfl rfl rfl HO.out rfl rfl HML2.out ?_)
            intro v6 w6 ho6
            have HO6 := Lib.hid ho6
            clear ho6
            go_wp2_with fail
            go_roundw
            case rel => exact ⟨k + 1, _, by omega, by go_num, rfl, Lib.hid ⟨_, HO6.out, by rw [HTK.out]; first | exact HFIN.out | (have h7 := HFIN.out; rw [List.append_assoc] at h7; exact h7)⟩⟩
            case measure => simp only [intOf]; omega
    · obtain rfl : k = n := by omega
      have hkk : ¬ ((k : Nat) : Int) < (k : Int) := by omega
      rw [HN.out, List.take_length] at hins
      cases dn with
      | true =>
        have HD : Hid (OwnA w sl (.slice oa m oc) wr) := Lib.hid (by rw [HS.out, ← (hins.1 rfl).2]; exact hout.after HO1.out.1)
        clear hins hm hout HO HE
        go_wp2_with fail
        go_ret
        exact ⟨_, rfl, HD.out⟩
      | false =>
        have HL2 : Hid (out.length ≤ 1000000) := Lib.hid (by omega)
        have HFI : Hid (out ++ [(t, key)] = sl) := Lib.hid (by rw [HS.out, (hins.2 rfl).2, ins_none (hins.2 rfl).1])
        clear hins hm hout HE
        go_wp2_with (at_builtin; refine wpList_oa_append (x := (t, key)) rfl (.tmp 63) (.tmp 67) rfl rfl rfl HO.out rfl rfl HL2.out ?_)
        intro v6 w6 ho6
        rw [HFI.out] at ho6
        have HD : Hid (OwnA w sl v6 w6) := Lib.hid (ho6.after HO1.out.1)
        clear ho6
        go_wp2_with fail
        go_ret
        exact ⟨_, rfl, HD.out⟩
end Go.Proofs.Ytckankoaiapcoaa.M
