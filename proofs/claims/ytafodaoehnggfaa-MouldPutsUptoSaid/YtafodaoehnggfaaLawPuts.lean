/- The walk of the law MouldPuts. -/
import Derived.Test.YtafodaoehnggfaaRefPut
import Derived.Test.YtafodaoehnggfaaRefEqual
import Derived.Test.YtafodaoehnggfaaRefFew
import Derived.Test.YtafodaoehnggfaaAwake1
import Derived.Deep.Cut
import Derived.Deep.CutRange
import Derived.Deep.LoopGhost
namespace Go.Proofs.Ytafodaoehnggfaa.M
open Go.RowKit

/-- Copies made so far. -/
def InAt (w : World) (ds : List V) (v : Value) (wr : World) : Prop :=
  Below w.heap.size w wr ∧ ∃ xs, wr.ownsRow w.heap.size 31 3 v ds.length xs ∧ Kids (RepV wr fun j => w.heap.size ≤ j ∧ j < wr.heap.size ∧ v.ownBlock ≠ some j) ds xs

theorem InAt.vals {w wr : World} {ds : List V} {v : Value} (h : InAt w ds v wr) : RepVl wr (fun j => w.heap.size ≤ j ∧ j < wr.heap.size) ds v := by
  obtain ⟨_, xs, hown, hk⟩ := h
  rcases owned_kids hown hk with h1 | ⟨g, c', hv, ho, hg, hlt, h3, h4, hx⟩
  · exact .inl ⟨h1.1, by rw [h1.2]; exact Bare.nil⟩
  · refine .inr ⟨g, 0, c', hv, ⟨hg, hlt⟩, h3, h4, RepVs.of ds fun i hi => ?_⟩
    obtain ⟨u, ha, hu⟩ := hx i hi
    exact ⟨u, ha, hu.same (fun k h => ⟨h.1, h.2.1⟩) fun _ _ => rfl⟩

theorem InAt.push {w wr w1 w4 : World} {o2 : Obj} {ds : List V} {d : V} {v v' : Value} {x y z : Value} {xs : List Value} (h0 : Below w.heap.size w wr) (hown : wr.ownsRow w.heap.size 31 3 v ds.length xs)
    (hk : Kids (RepV wr fun j => w.heap.size ≤ j ∧ j < wr.heap.size ∧ v.ownBlock ≠ some j) ds xs) (hb : Below wr.heap.size wr w1) (hd : RepV w1 (fun j => wr.heap.size ≤ j ∧ j < w1.heap.size) d (.agg #[x, y, z]))
    (ha : AppLeft (w1.alloc o2) w.heap.size 31 3 v ds.length 1 xs [x, y, z] v' w4) : InAt w (ds ++ [d]) v' w4 := by
  obtain ⟨hown4, hg, hwhere⟩ := ha
  have hz := hg.size
  simp at hz
  have hbz := hb.size
  have h0z := h0.size
  have hlo2 : ∀ k, v.ownBlock = some k → k < wr.heap.size := fun k hk => (hown.lt k hk).2
  have hkeep : ∀ k, k < w1.heap.size → v.ownBlock ≠ some k → w4.heap[k]? = w1.heap[k]? := fun k hk hn => by
    rw [hg.block k (by simp; omega) (fun h => hn h.symm), Below.heap_alloc _ _ _ hk]
  have hnew : ∀ j, j < w1.heap.size → v.ownBlock ≠ some j → v'.ownBlock ≠ some j := fun j hj hn h => by
    rcases hwhere with h5 | h5
    · exact hn (h5.symm.trans h)
    · rw [h] at h5; simp at h5; omega
  refine ⟨((h0.trans (hb.mono h0z)).alloc (by omega) o2).grown hg (by simp; omega) (fun j hj => (hown.lt j hj).1), xs ++ [x, y, z], by rw [List.length_append, List.length_singleton]; exact hown4, Kids.snoc (hd.same ?_ ?_) (hk.mono fun s u hu => hu.same ?_ ?_)⟩
  · intro j ⟨a1, a2⟩
    exact ⟨by omega, by omega, hnew j a2 fun h => by have := hlo2 j h; omega⟩
  · intro j ⟨a1, a2⟩
    exact hkeep j a2 fun h => by have := hlo2 j h; omega
  · intro j ⟨a1, a2, a3⟩
    exact ⟨a1, by omega, hnew j (by omega) a3⟩
  · intro j ⟨a1, a2, a3⟩
    rw [hkeep j (by omega) a3]
    exact hb.block j a2

/-- What Put answered, both ways. -/
def PutTwo (s : List UInt8) (l : List V) (w : World) (pa : Option Addr) (pn pc : Nat) (pk : Int) : Prop :=
  (∃ L, putAll s l = .ok L ∧ pk = 0 ∧ pn = L.length ∧ RepB w (fun b => b < w.heap.size) L (.slice pa pn pc)) ∨ (∃ c, putAll s l = .error c ∧ pk = c ∧ pn = 0)

theorem PutPost.two {w w' : World} {s : List UInt8} {l : List V} {e : Ending} (h : PutPost w (putAll s l) e w') : ∃ pa pn pc pk, e = .returned (.tuple #[.slice pa pn pc, .int .i64 pk]) ∧ Below w.heap.size w w' ∧ PutTwo s l w' pa pn pc pk := by
  obtain ⟨hb, h⟩ := h
  cases hp : putAll s l with
  | error c => rw [hp] at h; exact ⟨_, _, _, _, h, hb, .inr ⟨c, hp, rfl, rfl⟩⟩
  | ok L =>
    rw [hp] at h
    obtain ⟨v, rfl, hown⟩ := h
    have hr := (RepB.of_own hown).same (fun b hb => hb.2) fun _ _ => rfl
    obtain ⟨a, c, rfl, _⟩ := hr.slice
    exact ⟨_, _, _, _, rfl, hb, .inl ⟨L, hp, rfl, rfl, hr⟩⟩

theorem PutTwo.next {w w' : World} {s : List UInt8} {l : List V} {pa : Option Addr} {pn pc : Nat} {pk : Int} (h : PutTwo s l w pa pn pc pk) (hb : Below w.heap.size w w') : PutTwo s l w' pa pn pc pk := by
  rcases h with ⟨L, h1, h2, h3, h4⟩ | h
  · exact .inl ⟨L, h1, h2, h3, h4.same (fun b hb2 => Nat.lt_of_lt_of_le hb2 hb.size) fun b hb2 => hb.block b hb2⟩
  · exact .inr h

set_option maxRecDepth 100000 in
set_option maxHeartbeats 3200000 in
theorem MouldPuts_any (s : ByteArray) (l : List V) (F : Nat → Prop) (v : Value) (w : World) (hs : Hid (s.size ≤ 9223372036854775807)) (hv : RepVl w F l v) (hF : ∀ b, F b → b < w.heap.size) (hl : Hid (vsizes l ≤ 549755813888)) :
    Calls Try.prog 4 #[.string s, v] w fun e w' => e = .returned (.bool true) ∧ Below w.heap.size w w' := by
  obtain ⟨va, vc, rfl, hlen⟩ := hv.slice
  have HV := Lib.hid hv
  have HF := Lib.hid hF
  have HLEN : Hid (l.length ≤ 549755813888) := Lib.hid (Nat.le_trans (vsizes_len l) hl.out)
  have HRR := Lib.hid (fun w => RefRight_any s w hs.out)
  obtain ⟨iv, hiv, hiv0, hiv1, hiv2⟩ := info_parts infoVal
  obtain ⟨ib, hib, hib0, hib1, hib2⟩ := info_parts infoByte
  clear hv hF
  go_enter Try.func4, Try.ntmps4
  go_wp2_with fail
  refine (awake_any _).mono ?_
  rintro e w1 ⟨rfl, hB1⟩
  have HB1 := Lib.hid hB1
  clear hB1
  go_wp2_with fail
  refine (Few_any F l _ w1 2000 (HV.out.same (fun _ h => h) fun b hb => HB1.out.block b (HF.out b hb)) (fun b hb => Nat.lt_of_lt_of_le (HF.out b hb) HB1.out.size) (by omega) (by omega)).mono ?_
  rintro e w2 ⟨hB2, rfl⟩
  have HB2 : Hid (Below w.heap.size w w2) := Lib.hid (HB1.out.trans (hB2.mono HB1.out.size))
  clear hB2
  cases hfew : decide ((vpartss l : Int) ≤ 2000) with
  | false =>
    clear hfew
    go_wp2_with fail
    refine (awake_any _).mono ?_
    rintro e w3 ⟨rfl, hB3⟩
    have HB3 : Hid (Below w.heap.size w w3) := Lib.hid (HB2.out.trans (hB3.mono HB2.out.size))
    clear hB3
    go_wp2_with fail
    go_ret
    exact ⟨rfl, HB3.out⟩
  | true =>
    clear hfew
    go_wp2_with fail
    go_loopg [5, 6] l.length (fun g x i wr => ∃ k : Nat, i = .int .i64 (k : Int) ∧ k + g = l.length ∧ InAt w2 (l.take k) x wr)
    case atStart => exact ⟨0, rfl, by omega, Below.refl _ _, [], World.ownsRow_nil _ _ _ _, rfl⟩
    case round =>
      obtain ⟨k, rfl, hk, hB3, xs, hown, hkids⟩ := hrel
      have htk : (l.take k).length = k := by simp; omega
      have HB3 := Lib.hid hB3
      have HO := Lib.hid hown
      have HK := Lib.hid hkids
      have HTK := Lib.hid htk
      rw [htk] at hown
      obtain ⟨ia, ic, hiv5⟩ := owned_slice hown
      subst hiv5
      clear hB3 hown hkids htk
      by_cases hk2 : k < l.length
      · have hkk : (k : Int) < (l.length : Int) := by omega
        obtain ⟨eb, eoff, ea, hFe, u, hat, hu⟩ := HV.out.elem k hk2
        subst ea
        have heb := HF.out eb hFe
        have hB23 : Below w.heap.size w wr := HB2.out.trans (HB3.out.mono HB2.out.size)
        obtain ⟨x0, x1, x2, rfl, e0, e1, e2⟩ := hat.same (w' := wr) (hB23.block eb heb)
        have HCP := Lib.hid (Copy_any l[k] F _ wr (hu.same (fun _ h => h) fun b hb => hB23.block b (HF.out b hb)) (fun b hb => Nat.lt_of_lt_of_le (HF.out b hb) hB23.size) (by have := vsizes_get l k hk2; have := hl.out; omega))
        clear hat hu hB23
        go_wp2_with fail
        refine HCP.out.mono ?_
        rintro e w3 ⟨u3, rfl, hB4, hu3⟩
        obtain ⟨yn, yb, ybn, ybc, yl, yln, ylc, rfl⟩ := hu3.form
        have HB4 := Lib.hid hB4
        have HU3 := Lib.hid hu3
        have hy : Yields (w3.alloc (.cells #[.int .u64 yn, .slice yb ybn ybc, .slice yl yln ylc] 31)) (.slice (some ⟨w3.heap.size, 0, none⟩) 1 1) 1 3 [.int .u64 yn, .slice yb ybn ybc, .slice yl yln ylc] := ⟨rfl, fun u hu => by
          simp at hu
          rcases hu with rfl | rfl | rfl <;> rfl, .inr ⟨_, 1, rfl, three_new rfl⟩⟩
        have HY := Lib.hid hy
        have hown3 := HO.out.kept (grown_of_below HB4.out) (by cases (Value.slice ia k ic).ownBlock <;> simp)
        have HO3 := Lib.hid hown3
        rw [HTK.out] at hown3
        have HO4 := Lib.hid hown3
        have hbs : w2.heap.size ≤ w3.heap.size := Nat.le_trans HB3.out.size hB4.size
        clear hB4 hu3 hy hown3 e0 e1 e2
        go_wp2_with (at_builtin; go_loud (refine wpList_append_any _ rfl _ _ 26 rfl w2.heap.size 31 iv (.agg #[.int .u64 0, .slice none 0 0, .slice none 0 0]) 3 56 Try.underlying26 hiv hiv0 hiv1 hiv2 rfl (by decide) _ k xs rfl (HO4.out.alloc _) (.slice (some ⟨w3.heap.size, 0, none⟩) 1 1) rfl 1 [.int .u64 yn, .slice yb ybn ybc, .slice yl yln ylc] HY.out ?c1 ?c2 ?c3 ?_))
        case c1 => have := HLEN.out; unfold maxLen; omega
        case c2 => have := HLEN.out; omega
        case c3 => simp; omega
        intro v4 w4 happ
        have HIN : Hid (InAt w2 (l.take (k + 1)) v4 w4) := Lib.hid (by
          rw [List.take_add_one, List.getElem?_eq_getElem hk2]
          exact InAt.push HB3.out HO.out HK.out HB4.out HU3.out (by rw [HTK.out]; exact happ))
        clear happ
        go_wp2_with fail
        go_roundg (gk - 1)
        case measure => omega
        case rel => exact ⟨k + 1, by go_num, by omega, HIN.out⟩
      · have hkk : ¬ (k : Int) < (l.length : Int) := by omega
        obtain rfl : k = l.length := by omega
        have hIN : InAt w2 l (.slice ia l.length ic) wr := by
          have h1 := HB3.out
          have h2 := HO.out
          have h3 := HK.out
          rw [List.take_length] at h2 h3
          exact ⟨h1, xs, h2, h3⟩
        have HIN := Lib.hid hIN
        clear hIN
        have HB3' : Hid (Below w.heap.size w wr) := Lib.hid (HB2.out.trans (HB3.out.mono HB2.out.size))
        have HVI := Lib.hid HIN.out.vals
        clear HB3 HO HK HTK HIN HB2
        go_wp2_with fail
        refine (Put_any s l (fun b => b < wr.heap.size) _ wr hs.out (HVI.out.same (fun b hb => hb.2) fun _ _ => rfl) (fun b hb => hb) (by have := hl.out; omega)).mono ?_
        intro e w3 hp
        obtain ⟨pa, pn, pc, pk, rfl, hB4, hP⟩ := hp.two
        have HP3 := Lib.hid hP
        have HVI3 : Hid (RepVl w3 (fun b => b < w3.heap.size) l (.slice ia l.length ic)) := Lib.hid (HVI.out.same (fun b hb => Nat.lt_of_lt_of_le hb.2 hB4.size) fun b hb => hB4.block b hb.2)
        have HB4 : Hid (Below w.heap.size w w3) := Lib.hid (HB3'.out.trans (hB4.mono HB3'.out.size))
        have HV3 : Hid (RepVl w3 (fun b => b < w3.heap.size) l (.slice va l.length vc)) := Lib.hid (HV.out.same (fun b hb => Nat.lt_of_lt_of_le (HF.out b hb) HB4.out.size) fun b hb => HB4.out.block b (HF.out b hb))
        clear hp hP hB4 HVI HB3' HV HF HB1 hkk hk hk2
        obtain ⟨wo, hwo⟩ : ∃ wo : World, wo = wr := ⟨_, rfl⟩
        subst hwo
        go_wp2_with fail
        go_loopg [9] l.length (fun g i wr => ∃ k : Nat, i = .int .i64 (k : Int) ∧ k + g = l.length ∧ Below w3.heap.size w3 wr)
        case atStart => exact ⟨0, rfl, by omega, Below.refl _ _⟩
        case round =>
          obtain ⟨k, rfl, hk, hB5⟩ := hrel
          have HB5 := Lib.hid hB5
          clear hB5
          by_cases hk2 : k < l.length
          · have hkk : (k : Int) < (l.length : Int) := by omega
            obtain ⟨eb, eoff, ea, hFe, u, hat, hu⟩ := HV3.out.elem k hk2
            obtain ⟨gb, goff, ga, hFg, u2, hat2, hu2⟩ := HVI3.out.elem k hk2
            subst ea ga
            obtain ⟨x0, x1, x2, rfl, e0, e1, e2⟩ := hat.same (w' := wr) (HB5.out.block eb hFe)
            obtain ⟨y0, y1, y2, rfl, g0, g1, g2⟩ := hat2.same (w' := wr) (HB5.out.block gb hFg)
            have heb : eb < wr.heap.size := Nat.lt_of_lt_of_le hFe HB5.out.size
            have hgb : gb < wr.heap.size := Nat.lt_of_lt_of_le hFg HB5.out.size
            have HEQ := Lib.hid (Equal_same l[k] (fun b => b < w3.heap.size) _ _ wr.drew (hu2.same (w' := wr.drew) (fun _ h => h) fun b hb => HB5.out.block b hb) (hu.same (w' := wr.drew) (fun _ h => h) fun b hb => HB5.out.block b hb) (fun b hb => Nat.lt_of_lt_of_le hb HB5.out.size))
            clear hat hat2 hu hu2
            go_wp2_with fail
            refine wp_region_held (S := fun w' => Below wr.heap.size wr w') (by kernel_rfl) ?_
            have hS : Below wr.heap.size wr wr.drew := (Below.refl _ _).drew
            have r0 : ∀ w', Below wr.heap.size wr w' → w'.cell? ⟨eb, eoff + k * 3, none⟩ = some x0 := fun w' hw' => (hw'.cell (p := ⟨eb, eoff + k * 3, none⟩) heb).trans e0
            have r1 : ∀ w', Below wr.heap.size wr w' → w'.cell? ⟨eb, eoff + k * 3 + 1, none⟩ = some x1 := fun w' hw' => (hw'.cell (p := ⟨eb, eoff + k * 3 + 1, none⟩) heb).trans e1
            have r2 : ∀ w', Below wr.heap.size wr w' → w'.cell? ⟨eb, eoff + k * 3 + 2, none⟩ = some x2 := fun w' hw' => (hw'.cell (p := ⟨eb, eoff + k * 3 + 2, none⟩) heb).trans e2
            have s0 : ∀ w', Below wr.heap.size wr w' → w'.cell? ⟨gb, goff + k * 3, none⟩ = some y0 := fun w' hw' => (hw'.cell (p := ⟨gb, goff + k * 3, none⟩) hgb).trans g0
            have s1 : ∀ w', Below wr.heap.size wr w' → w'.cell? ⟨gb, goff + k * 3 + 1, none⟩ = some y1 := fun w' hw' => (hw'.cell (p := ⟨gb, goff + k * 3 + 1, none⟩) hgb).trans g1
            have s2 : ∀ w', Below wr.heap.size wr w' → w'.cell? ⟨gb, goff + k * 3 + 2, none⟩ = some y2 := fun w' hw' => (hw'.cell (p := ⟨gb, goff + k * 3 + 2, none⟩) hgb).trans g2
            clear e0 e1 e2 g0 g1 g2
            refine H_take (i := 0) (v := ?_) rfl (by as_aux_lemma => kernel_rfl) (by as_aux_lemma => kernel_rfl) (by as_aux_lemma => kernel_rfl) (fun _ _ _ h => h) (by rfl) hS ?_ ?_
            rotate_left
            · intro w' hw'; go_simp; with_reducible rfl
            go_simp
            refine H_take (i := 1) (v := ?_) rfl (by as_aux_lemma => kernel_rfl) (by as_aux_lemma => kernel_rfl) (by as_aux_lemma => kernel_rfl) (fun _ _ _ h => h) (by rfl) hS ?_ ?_
            rotate_left
            · intro w' hw'; go_simp; with_reducible rfl
            go_simp
            refine H_take (i := 2) (v := ?_) rfl (by as_aux_lemma => kernel_rfl) (by as_aux_lemma => kernel_rfl) (by as_aux_lemma => kernel_rfl) (fun _ _ _ h => h) (by rfl) hS ?_ ?_
            rotate_left
            · intro w' hw'; go_simp; with_reducible rfl
            go_simp
            refine H_take (i := 3) (v := ?_) rfl (by as_aux_lemma => kernel_rfl) (by as_aux_lemma => kernel_rfl) (by as_aux_lemma => kernel_rfl) (fun _ _ _ h => h) (by rfl) hS ?_ ?_
            rotate_left
            · intro w' hw'; go_simp; with_reducible rfl
            go_simp
            refine H_take (i := 4) (v := ?_) rfl (by as_aux_lemma => kernel_rfl) (by as_aux_lemma => kernel_rfl) (by as_aux_lemma => kernel_rfl) (fun _ _ _ h => h) (by rfl) hS ?_ ?_
            rotate_left
            · intro w' hw'; go_simp; with_reducible rfl
            go_simp
            refine H_take (i := 5) (v := ?_) rfl (by as_aux_lemma => kernel_rfl) (by as_aux_lemma => kernel_rfl) (by as_aux_lemma => kernel_rfl) (fun _ _ _ h => h) (by rfl) hS ?_ ?_
            rotate_left
            · intro w' hw'; go_simp; with_reducible rfl
            go_simp
            refine H_take (i := 6) (v := ?_) rfl (by as_aux_lemma => kernel_rfl) (by as_aux_lemma => kernel_rfl) (by as_aux_lemma => kernel_rfl) (fun _ _ _ h => h) (by rfl) hS ?_ ?_
            rotate_left
            · intro w' hw'; go_simp; with_reducible rfl
            go_simp
            refine H_take (i := 7) (v := ?_) rfl (by as_aux_lemma => kernel_rfl) (by as_aux_lemma => kernel_rfl) (by as_aux_lemma => kernel_rfl) (fun _ _ _ h => h) (by rfl) hS ?_ ?_
            rotate_left
            · intro w' hw'; go_simp; with_reducible rfl
            go_simp
            refine H_one (i := 8) (by as_aux_lemma => kernel_rfl) rfl (by rfl) ?_
            go_simp
            refine HEQ.out.mono ?_
            rintro e w4 ⟨rfl, hB6⟩
            have hS1 : Below wr.heap.size wr w4 := hS.trans hB6
            refine ⟨hS1, ?_⟩
            go_simp
            refine H_take (i := 9) (v := ?_) rfl (by as_aux_lemma => kernel_rfl) (by as_aux_lemma => kernel_rfl) (by as_aux_lemma => kernel_rfl) (fun _ _ _ h => h) (by rfl) hS1 ?_ ?_
            rotate_left
            · intro w' hw'; go_simp; with_reducible rfl
            go_simp
            refine wpAnyH_done (by as_aux_lemma => kernel_rfl) ?_ _
            have HS1 := Lib.hid hS1
            clear r0 r1 r2 s0 s1 s2 hS hB6 hS1
            go_wp2_with fail
            go_roundg (gk - 1)
            case measure => omega
            case rel => exact ⟨k + 1, by go_num, by omega, HB5.out.trans (HS1.out.mono HB5.out.size)⟩
          · have hkk : ¬ (k : Int) < (l.length : Int) := by omega
            obtain rfl : k = l.length := by omega
            have HB6 : Hid (Below w.heap.size w wr) := Lib.hid (HB4.out.trans (HB5.out.mono HB4.out.size))
            have HP6 := Lib.hid (HP3.out.next HB5.out)
            have HVI6 : Hid (RepVl wr (fun b => b < wr.heap.size) l (.slice ia l.length ic)) := Lib.hid (HVI3.out.same (fun b hb => Nat.lt_of_lt_of_le hb HB5.out.size) fun b hb => HB5.out.block b hb)
            have HV6 : Hid (RepVl wr (fun b => b < wr.heap.size) l (.slice va l.length vc)) := Lib.hid (HV3.out.same (fun b hb => Nat.lt_of_lt_of_le hb HB5.out.size) fun b hb => HB5.out.block b hb)
            clear HB4 HP3 HVI3 HV3 HB5 hk hk2
            go_wp2_with fail
            have HIS := Lib.hid (Is_any s l (fun b => b < wr.heap.size) _ wr hs.out HVI6.out (fun b hb => hb) (by have := hl.out; omega))
            refine (HRR.out _).mono ?_
            rintro e w4 ⟨rfl, rfl⟩
            cases hq : shape s.data.toList with
            | none =>
              have hpk : pk = 10 ∧ pn = 0 := by
                have hpa : putAll s.data.toList l = .error 10 := by unfold putAll; rw [hq]
                rcases HP6.out with ⟨L, h, _⟩ | ⟨c, h, h1, h2⟩
                · rw [hpa] at h; cases h
                · rw [hpa] at h; cases h; exact ⟨h1, h2⟩
              obtain ⟨rfl, rfl⟩ := hpk
              have hia : isAll s.data.toList l = false := by unfold isAll; rw [hq]
              rw [hia] at HIS
              clear hq hia
              simp only [Option.isSome_none]
              go_wp2_with fail
              refine HIS.out.mono ?_
              rintro e w5 ⟨rfl, hB7⟩
              have HB7 : Hid (Below w.heap.size w w5) := Lib.hid (HB6.out.trans (hB7.mono HB6.out.size))
              clear hB7
              go_wp2_with fail
              go_ret
              exact ⟨rfl, HB7.out⟩
            | some sh =>
              have Hq := Lib.hid hq
              have hia : isAll s.data.toList l = l.all (isV sh) := by unfold isAll; rw [hq]
              rw [hia] at HIS
              have HPA : Hid (putAll s.data.toList l = if l.all (isV sh) then .ok (l.map (putV sh)).flatten else .error 2) := Lib.hid (by unfold putAll; rw [hq])
              clear hq hia
              obtain ⟨wo2, hwo2⟩ : ∃ wo : World, wo = wr := ⟨_, rfl⟩
              subst hwo2
              simp only [Option.isSome_some]
              go_wp2_with fail
              go_loopg [10, 11, 12] l.length (fun g isv x i wr => ∃ (k : Nat) (L : List UInt8), i = .int .i64 (k : Int) ∧ k + g = l.length ∧ isv = .bool ((l.take k).all (isV sh)) ∧ OutAt wo2 L x wr ∧ ((l.take k).all (isV sh) = true → L = ((l.take k).map (putV sh)).flatten) ∧ L.length ≤ 549755813888)
              case atStart => exact ⟨0, [], rfl, by omega, rfl, ⟨Below.refl _ _, World.ownsRow_nil _ _ _ _⟩, fun _ => rfl, by simp⟩
              case round =>
                obtain ⟨k, L, rfl, hk, rfl, hO, hL, hLl⟩ := hrel
                have HO := Lib.hid hO
                have HL := Lib.hid hL
                have HLL := Lib.hid hLl
                obtain ⟨oa, oc, hov⟩ := owned_slice hO.2
                subst hov
                clear hO hL hLl
                by_cases hk2 : k < l.length
                · have hkk : (k : Int) < (l.length : Int) := by omega
                  obtain ⟨eb, eoff, ea, hFe, u, hat, hu⟩ := HV6.out.elem k hk2
                  subst ea
                  obtain ⟨x0, x1, x2, rfl, e0, e1, e2⟩ := hat.same (w' := wr) (HO.out.1.block eb hFe)
                  have HREP : Hid (RepV wr (fun b => b < wr.heap.size) l[k] (.agg #[x0, x1, x2])) := Lib.hid (hu.same (fun b hb => Nat.lt_of_lt_of_le hb HO.out.1.size) fun b hb => HO.out.1.block b hb)
                  clear hat hu
                  cases hal : (l.take k).all (isV sh) with
                  | false =>
                    have HAL : Hid ((l.take (k + 1)).all (isV sh) = false) := Lib.hid (by
                      rw [List.take_add_one, List.all_append, hal]; rfl)
                    clear hal
                    go_wp2_with fail
                    go_roundg (gk - 1)
                    case measure => omega
                    case rel => exact ⟨k + 1, L, by go_num, by omega, by rw [HAL.out], HO.out, fun h => (by rw [HAL.out] at h; cases h), HLL.out⟩
                  | true =>
                    have HAL := Lib.hid hal
                    clear hal
                    go_wp2_with fail
                    refine (RefIs_any Hq.out l[k] _ _ wr HREP.out (fun b hb => hb)).mono ?_
                    rintro e w5 ⟨rfl, hB7⟩
                    have HB7 := Lib.hid hB7
                    have HO5 := Lib.hid (HO.out.next hB7)
                    have HREP5 : Hid (RepV w5 (fun b => b < w5.heap.size) l[k] (.agg #[x0, x1, x2])) := Lib.hid (HREP.out.same (fun b hb => Nat.lt_of_lt_of_le hb hB7.size) fun b hb => hB7.block b hb)
                    have e0 : w5.cell? ⟨eb, eoff + k * 3, none⟩ = some x0 := (hB7.cell (p := ⟨eb, eoff + k * 3, none⟩) (Nat.lt_of_lt_of_le hFe HO.out.1.size)).trans e0
                    have e1 : w5.cell? ⟨eb, eoff + k * 3 + 1, none⟩ = some x1 := (hB7.cell (p := ⟨eb, eoff + k * 3 + 1, none⟩) (Nat.lt_of_lt_of_le hFe HO.out.1.size)).trans e1
                    have e2 : w5.cell? ⟨eb, eoff + k * 3 + 2, none⟩ = some x2 := (hB7.cell (p := ⟨eb, eoff + k * 3 + 2, none⟩) (Nat.lt_of_lt_of_le hFe HO.out.1.size)).trans e2
                    clear hB7
                    cases hiv9 : isV sh l[k] with
                    | false =>
                      have HAL2 : Hid ((l.take (k + 1)).all (isV sh) = false) := Lib.hid (by
                        rw [List.take_add_one, List.all_append, List.getElem?_eq_getElem hk2]; simp [hiv9])
                      clear hiv9
                      go_wp2_with fail
                      go_roundg (gk - 1)
                      case measure => omega
                      case rel => exact ⟨k + 1, L, by go_num, by omega, by rw [HAL2.out], HO5.out, fun h => (by rw [HAL2.out] at h; cases h), HLL.out⟩
                    | true =>
                      have HIV := Lib.hid hiv9
                      have HAL2 : Hid ((l.take (k + 1)).all (isV sh) = true) := Lib.hid (all_take l k hk2 HAL.out hiv9)
                      clear hiv9
                      go_wp2_with fail
                      refine (RefPut_any Hq.out l[k] _ _ w5 HREP5.out (fun b hb => hb) HIV.out (by have := vsizes_get l k hk2; have := hl.out; omega)).mono ?_
                      rintro e w6 ⟨qa, qc, rfl, hP6⟩
                      have HO6 := Lib.hid (HO5.out.next hP6.1)
                      have HY6 : Hid (Yields w6 (.slice qa (putV sh l[k]).length qc) (putV sh l[k]).length 1 ((putV sh l[k]).map byteV)) := Lib.hid (RepB.of_own hP6.2).yields
                      have hbs : wo2.heap.size ≤ w6.heap.size := HO6.out.1.size
                      have HLN : Hid (L.length + (putV sh l[k]).length ≤ 549755813888) := Lib.hid (by
                        rw [HL.out HAL.out]
                        have h1 := vsizes_get l k hk2
                        have h2 := putMany_le sh (l.take k)
                        have h3 := putV_le sh l[k]
                        have h4 := hl.out
                        omega)
                      clear hP6 e0 e1 e2
                      go_wp2_with (at_builtin; go_loud (refine wpList_append_any _ rfl _ _ 29 rfl wo2.heap.size 5 ib (.int .u8 0) 1 1 Try.underlying29 hib hib0 hib1 hib2 rfl (by decide) _ L.length (L.map byteV) rfl HO6.out.2 (.slice qa (putV sh l[k]).length qc) rfl (putV sh l[k]).length ((putV sh l[k]).map byteV) HY6.out ?d1 ?d2 ?d3 ?_))
                      case d1 => have := HLN.out; unfold maxLen; omega
                      case d2 => have := HLN.out; omega
                      case d3 => exact hbs
                      intro v7 w7 happ
                      have hO7 := HO6.out.app happ
                      have HO7 := Lib.hid hO7
                      clear happ hO7
                      go_wp2_with fail
                      go_roundg (gk - 1)
                      case measure => omega
                      case rel => exact ⟨k + 1, L ++ putV sh l[k], by go_num, by omega, by rw [HAL2.out], HO7.out, fun _ => by rw [putMany_take l k hk2, HL.out HAL.out], by rw [List.length_append]; exact HLN.out⟩
                · have hkk : ¬ (k : Int) < (l.length : Int) := by omega
                  obtain rfl : k = l.length := by omega
                  have hL2 := HL.out
                  rw [List.take_length] at hL2
                  have HL2 := Lib.hid hL2
                  have HIS7 := Lib.hid (Is_any s l (fun b => b < wr.heap.size) _ wr hs.out (HVI6.out.same (fun b hb => Nat.lt_of_lt_of_le hb HO.out.1.size) fun b hb => HO.out.1.block b hb) (fun b hb => hb) (by have := hl.out; omega))
                  have hia : isAll s.data.toList l = l.all (isV sh) := by unfold isAll; rw [Hq.out]
                  rw [hia] at HIS7
                  have HB7 : Hid (Below w.heap.size w wr) := Lib.hid (HB6.out.trans (HO.out.1.mono HB6.out.size))
                  have HP7 := Lib.hid (HP6.out.next HO.out.1)
                  simp only [List.take_length]
                  clear hL2 hia HIS HL HP6 HB6 HV6 HVI6
                  cases hal : l.all (isV sh) with
                  | false =>
                    rw [hal] at HIS7 HPA
                    have hpk : pk = 2 ∧ pn = 0 := by
                      have hpa := HPA.out
                      rw [if_neg (by decide)] at hpa
                      rcases HP7.out with ⟨L, h, _⟩ | ⟨c, h, h1, h2⟩
                      · rw [hpa] at h; cases h
                      · rw [hpa] at h; cases h; exact ⟨h1, h2⟩
                    obtain ⟨rfl, rfl⟩ := hpk
                    clear hal
                    go_wp2_with fail
                    refine HIS7.out.mono ?_
                    rintro e w8 ⟨rfl, hB8⟩
                    have HB8 : Hid (Below w.heap.size w w8) := Lib.hid (HB7.out.trans (hB8.mono HB7.out.size))
                    clear hB8
                    go_wp2_with fail
                    go_ret
                    exact ⟨rfl, HB8.out⟩
                  | true =>
                    rw [hal] at HIS7 HPA
                    have hpk : pk = 0 ∧ pn = L.length ∧ RepB wr (fun b => b < wr.heap.size) L (.slice pa pn pc) := by
                      have hpa := HPA.out
                      rw [if_pos rfl] at hpa
                      rcases HP7.out with ⟨L', h, h1, h2, h3⟩ | ⟨c, h, _⟩
                      · rw [hpa] at h
                        cases h
                        rw [← HL2.out hal] at h2 h3
                        exact ⟨h1, h2, h3⟩
                      · rw [hpa] at h; cases h
                    obtain ⟨rfl, rfl, hr⟩ := hpk
                    have HR := Lib.hid hr
                    clear hal hr
                    go_wp2_with fail
                    refine HIS7.out.mono ?_
                    rintro e w8 ⟨rfl, hB8⟩
                    have hs1 := string_at' (HR.out.same (w' := w8) (fun _ h => h) fun b hb => hB8.block b hb)
                    have hs2 := string_at' ((RepB.of_own HO.out.2).same (w' := w8) (fun _ h => h) fun b hb => hB8.block b hb.2)
                    have HB8 : Hid (Below w.heap.size w w8) := Lib.hid (HB7.out.trans (hB8.mono HB7.out.size))
                    clear hB8
                    go_wp2_with fail
                    go_ret
                    exact ⟨rfl, HB8.out⟩
end Go.Proofs.Ytafodaoehnggfaa.M
