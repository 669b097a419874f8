/- layNumber and lay of package mould: what they append. lay of package mould: what a value's form has ahead of its parts. -/
import Derived.Test.YtamgjlegcegmeaaGreatDoorSD6
import Derived.Test.YtamgjlegcegmeaaGreatDoorSD7
import Derived.Deep.RegionLaw
/- Part: MouldPut1. -/
namespace Go.Proofs.YtamgjlegcegmeaaGreatDoor.M
open Go.RowKit

set_option maxRecDepth 20000 in
set_option maxHeartbeats 800000 in
theorem layNumber_any (B : Nat) (v : Value) (L : List UInt8) (n : Nat) (w : World) (hn : Hid ((n : Int) < 18446744073709551616)) (hown : w.ownsRow B 5 1 v L.length (L.map byteV))
    (hB : B ≤ w.heap.size) (hL : L.length ≤ 1099511627776) :
    Calls Tryz.prog 107 #[v, .int .u64 (n : Int)] w fun e w' => ∃ v', e = .returned v' ∧ Acc w B v w' v' (L ++ num n) := by
  obtain ⟨a, c, rfl⟩ := owned_slice hown
  obtain ⟨ib, hib, hib0, hib1, hib2⟩ := info_parts infoByte
  have hn2 : Hid (n < 18446744073709551616) := Lib.hid (by have := hn.out; omega)
  have hl8 := dig_length_le n hn2.out
  have HD : Hid ((dig 8 n).length = (blen n + 7) / 8) := Lib.hid (dig_length 8 n (by have := hn.out; omega))
  have HT : Hid (∀ j, j < (dig 8 n).length → (dig 8 n).take ((dig 8 n).length - j) = (dig 8 n).take ((dig 8 n).length - (j + 1)) ++ [UInt8.ofNat (n / 2 ^ (8 * j) % 256)]) := Lib.hid fun j hj => dig_take hn2.out hj
  have hb64 : blen n ≤ 64 := by have := hn.out; rw [blen_le]; omega
  have hlen := Len64_any n (by omega) hn w
  rw [Int.toNat_natCast] at hlen
  have HLEN := Lib.hid hlen
  rw [show num n = UInt8.ofNat (dig 8 n).length :: dig 8 n from rfl]
  clear hn2 hlen hn
  generalize dig 8 n = D at *
  generalize blen n = bl at *
  have HDI : Hid (((bl : Int) + 7) / 8 = (D.length : Int)) := Lib.hid (by rw [HD.out]; omega)
  have hdl : ((bl : Int) + 7) / 8 ≤ 8 := by omega
  go_enter Tryz.func107, Tryz.ntmps107
  go_wp2_with fail
  refine HLEN.out.mono ?_
  rintro e w1 ⟨rfl, rfl⟩
  go_wp2_with (at_builtin; refine wpList_append_own2 _ rfl (.tmp 11) (.tmp 14) 34 rfl B 5 ib (.int .u8 0) 1 1 Tryz.underlying34 hib hib0 hib1 hib2 rfl (by decide) _ _ _ rfl (hown.alloc _) ⟨w.heap.size, 0, none⟩ 1 1 [.int .u8 (((bl : Int) + 7) / 8)] rfl rfl ?c1 ?c2 ?c3 ?c4 ?c5 ?_)
  case c1 => exact one_new rfl
  case c2 => intro u hu; simp at hu; rw [hu]; rfl
  case c3 => unfold maxLen; omega
  case c4 => omega
  case c5 => simp; omega
  intro v1 w2 hown2 hg _ hwhere
  have hacc : Acc w B (.slice a L.length c) w2 v1 (L ++ [UInt8.ofNat D.length]) := by
    refine (Acc.start hown).push hown2 (by simp) ?_ hg (by simpa using hwhere)
    have : (UInt8.ofNat D.length).toNat = D.length := UInt8.toNat_ofNat_of_lt' (by show _ < 256; omega)
    rw [byteV, this, HDI.out]
  clear hwhere hg hown2
  go_wp2_with fail
  go_loopw [0, 6] (fun o i wr => ∃ (x : Int) (j : Nat) (v2 : Value), o = v2 ∧ i = .int .i64 x ∧ Hid (x = (j : Int) - 1) ∧ j ≤ D.length ∧
      Acc w B (.slice a L.length c) wr v2 (L ++ [UInt8.ofNat D.length] ++ D.take (D.length - j))) (fun _ i _ => upOne i)
  case atStart => exact ⟨_, D.length, v1, rfl, rfl, Lib.hid (by rw [HDI.out]), Nat.le_refl _, by simpa using hacc⟩
  case round =>
    obtain ⟨x, j, v2, rfl, rfl, HX, hj, hacc⟩ := hrel
    by_cases hj0 : 0 < j
    · have hx0 : 0 ≤ x := by have := HX.out; omega
      have hx8 : x ≤ 7 := by have := HX.out; omega
      clear hj0
      go_wp2_with (at_builtin; refine wpList_append_own2 _ rfl (.tmp 22) (.tmp 28) 34 rfl B 5 ib (.int .u8 0) 1 1 Tryz.underlying34 hib hib0 hib1 hib2 rfl (by decide) _ _ _ rfl (hacc.1.alloc _) ⟨wr.heap.size, 0, none⟩ 1 1 [.int .u8 ((n : Int) / 2 ^ (8 * x).toNat % 256)] rfl rfl ?d1 ?d2 ?d3 ?d4 ?d5 ?_)
      case d1 => exact one_new rfl
      case d2 => intro u hu; simp at hu; rw [hu]; rfl
      case d3 => simp; unfold maxLen; omega
      case d4 => simp; omega
      case d5 => have := hacc.2.1.size; simp; omega
      intro v3 w3 hown3 hg3 _ hwhere3
      have hacc3 : Acc w B (.slice a L.length c) w3 v3 (L ++ [UInt8.ofNat D.length] ++ D.take (D.length - (j - 1))) := by
        have hx := HX.out
        have e := HT.out (j - 1) (by omega)
        rw [show j - 1 + 1 = j from by omega] at e
        rw [e, ← List.append_assoc]
        have e2 : (8 * x).toNat = 8 * (j - 1) := by omega
        have e3 : byteV (UInt8.ofNat (n / 2 ^ (8 * (j - 1)) % 256)) = .int .u8 ((n : Int) / 2 ^ (8 * x).toNat % 256) := by
          rw [e2, byteV, UInt8.toNat_ofNat_of_lt' (by show _ < 256; omega)]
          simp
        exact hacc.push hown3 (by simp) (by rw [e3]; simp) hg3 (by simpa using hwhere3)
      have HX3 : Hid (x - 1 = ((j - 1 : Nat) : Int) - 1) := Lib.hid (by have := HX.out; omega)
      have hj3 : j - 1 ≤ D.length := by omega
      clear hwhere3 hg3 hown3
      go_wp2_with fail
      go_roundw
      case rel => exact ⟨x - 1, j - 1, v3, rfl, rfl, HX3, hj3, hacc3⟩
      case measure => simp [upOne, intOf]; omega
    · have hx0 : x < 0 := by have := HX.out; omega
      have HJ : Hid (D.length - j = D.length) := Lib.hid (by omega)
      clear hj0
      go_wp2_with fail
      go_ret
      refine ⟨_, rfl, ?_⟩
      rw [HJ.out, List.take_length, List.append_assoc] at hacc
      exact hacc
end Go.Proofs.YtamgjlegcegmeaaGreatDoor.M

/- Part: MouldPut2. -/
namespace Go.Proofs.YtamgjlegcegmeaaGreatDoor.M
open Go.RowKit

/-- What a value's form has ahead of the forms of its parts. -/
def headOf : Sh → V → List UInt8
  | .num, d => num d.n
  | .blob, d => num d.b.length ++ d.b
  | .list _, d => num d.l.length
  | .row _, _ => []

def LayPost (w : World) (B : Nat) (v : Value) (L : List UInt8) (e : Ending) (w' : World) : Prop := ∃ v', e = .returned v' ∧ Acc w B v w' v' L

theorem RepVl.slice {w : World} {F : Nat → Prop} {l : List V} {v : Value} (h : RepVl w F l v) : ∃ a c, v = .slice a l.length c ∧ l.length ≤ 9223372036854775807 := by
  rcases h with ⟨rfl, a, c, rfl, _, _⟩ | ⟨b, off, c, rfl, _, h1, h2, _⟩
  · exact ⟨a, c, rfl, by simp⟩
  · exact ⟨_, c, rfl, by omega⟩

/-- The box that was made ahead of an append stands behind it. -/
theorem box_kept {w w1 : World} {B : Nat} {v v1 : Value} {L L1 : List UInt8} {o : Obj} (hown : w.ownsRow B 5 1 v L.length (L.map byteV)) (h : Acc (w.alloc o).drew B v w1 v1 L1) : w1.heap[w.heap.size]? = some o := by
  rw [h.2.1.block w.heap.size (by simp) ?_]
  · exact heap_new w o _ rfl
  · intro h1
    have := (hown.lt _ h1.symm).2
    omega

theorem keeps_low {w w1 : World} {B : Nat} {v v1 : Value} {L1 : List UInt8} {o : Obj} {F : Nat → Prop} (h : Acc (w.alloc o).drew B v w1 v1 L1)
    (hF : ∀ b, F b → b < w.heap.size ∧ v.ownBlock ≠ some b) : ∀ b, F b → w1.heap[b]? = w.heap[b]? := by
  intro b hb
  have hl := hF b hb
  rw [h.2.1.block b (by simp; omega) (fun h1 => hl.2 h1.symm)]
  exact Below.heap_alloc _ _ _ hl.1

theorem size_after {w w1 : World} {B : Nat} {v v1 : Value} {L1 : List UInt8} {o : Obj} (hB : B ≤ w.heap.size) (h : Acc (w.alloc o).drew B v w1 v1 L1) : B ≤ w1.heap.size := by
  have := h.2.1.size
  simp at this
  omega

set_option maxRecDepth 20000 in
set_option maxHeartbeats 800000 in
theorem lay_num (d : V) (F : Nat → Prop) (B : Nat) (v u : Value) (L : List UInt8) (w : World) (hu : RepV w F d u) (hown : w.ownsRow B 5 1 v L.length (L.map byteV))
    (hB : B ≤ w.heap.size) (hL : L.length ≤ 1099511627776) :
    Calls Tryz.prog 76 #[v, .int .u8 110, u] w (LayPost w B v (L ++ num d.n)) := by
  obtain ⟨n, b, l⟩ := d
  obtain ⟨vb, vl, rfl, hn, hb, hl⟩ := RepV_mk.1 hu
  obtain ⟨ab, cb, rfl, hbl⟩ := hb.slice
  obtain ⟨al, cl, rfl, hll⟩ := hl.slice
  have HN : Hid ((n : Int) < 18446744073709551616) := Lib.hid (by omega)
  have HR := Lib.hid hu
  clear hu hb hl hn
  have hcall := layNumber_any B v L n (w.alloc (.cells #[.int .u64 (n : Int), .slice ab b.length cb, .slice al l.length cl] 95)) HN (hown.alloc _) (by simp; omega) hL
  have HC := Lib.hid hcall
  clear hcall
  go_enter Tryz.func76, Tryz.ntmps76
  go_wp2_with fail
  refine HC.out.mono ?_
  rintro e w1 ⟨v', rfl, hacc⟩
  go_wp2_with fail
  go_ret
  exact ⟨v', rfl, hacc.alloc0⟩

set_option maxRecDepth 20000 in
set_option maxHeartbeats 800000 in
theorem lay_list (d : V) (F : Nat → Prop) (B : Nat) (v u : Value) (L : List UInt8) (w : World) (hu : RepV w F d u) (hown : w.ownsRow B 5 1 v L.length (L.map byteV))
    (hB : B ≤ w.heap.size) (hL : L.length ≤ 1099511627776) :
    Calls Tryz.prog 76 #[v, .int .u8 42, u] w (LayPost w B v (L ++ num d.l.length)) := by
  obtain ⟨n, b, l⟩ := d
  obtain ⟨vb, vl, rfl, hn, hb, hl⟩ := RepV_mk.1 hu
  obtain ⟨ab, cb, rfl, hbl⟩ := hb.slice
  obtain ⟨al, cl, rfl, hll⟩ := hl.slice
  have HN : Hid ((l.length : Int) < 18446744073709551616) := Lib.hid (by omega)
  have HR := Lib.hid hu
  clear hu hb hl hn
  have hcall := layNumber_any B v L l.length (w.alloc (.cells #[.int .u64 (n : Int), .slice ab b.length cb, .slice al l.length cl] 95)) HN (hown.alloc _) (by simp; omega) hL
  have HC := Lib.hid hcall
  clear hcall
  go_enter Tryz.func76, Tryz.ntmps76
  go_wp2_with fail
  refine HC.out.mono ?_
  rintro e w1 ⟨v', rfl, hacc⟩
  go_wp2_with fail
  go_ret
  exact ⟨v', rfl, hacc.alloc0⟩

set_option maxRecDepth 20000 in
set_option maxHeartbeats 800000 in
theorem lay_row (d : V) (F : Nat → Prop) (B : Nat) (v u : Value) (L : List UInt8) (w : World) (hu : RepV w F d u) (hown : w.ownsRow B 5 1 v L.length (L.map byteV)) :
    Calls Tryz.prog 76 #[v, .int .u8 91, u] w (LayPost w B v (L ++ [])) := by
  obtain ⟨n, b, l⟩ := d
  obtain ⟨vb, vl, rfl, hn, hb, hl⟩ := RepV_mk.1 hu
  obtain ⟨ab, cb, rfl, hbl⟩ := hb.slice
  obtain ⟨al, cl, rfl, hll⟩ := hl.slice
  clear hu hb hl hn
  go_enter Tryz.func76, Tryz.ntmps76
  go_wp2_with fail
  go_ret
  exact ⟨v, rfl, by rw [List.append_nil]; exact (Acc.start hown).alloc _⟩

set_option maxRecDepth 20000 in
set_option maxHeartbeats 800000 in
theorem lay_blob (d : V) (F : Nat → Prop) (B : Nat) (v u : Value) (L : List UInt8) (w : World) (hu : RepV w F d u) (hown : w.ownsRow B 5 1 v L.length (L.map byteV))
    (hB : B ≤ w.heap.size) (hL : L.length + d.b.length + 9 ≤ 1099511627776) (hF : ∀ b, F b → b < w.heap.size ∧ v.ownBlock ≠ some b) :
    Calls Tryz.prog 76 #[v, .int .u8 98, u] w (LayPost w B v (L ++ (num d.b.length ++ d.b))) := by
  obtain ⟨n, b, l⟩ := d
  obtain ⟨vb, vl, rfl, hn, hb, hl⟩ := RepV_mk.1 hu
  have HB := Lib.hid hb
  obtain ⟨ab, cb, rfl, hbl⟩ := hb.slice
  obtain ⟨al, cl, rfl, hll⟩ := hl.slice
  simp only [V.b] at hL ⊢
  have HN : Hid ((b.length : Int) < 18446744073709551616) := Lib.hid (by omega)
  have HW : Hid (IntKind.u64.wrap (b.length : Int) = (b.length : Int)) := Lib.hid (IntWalk.u64_in _ (by omega))
  have hnl := num_length_le b.length (by omega)
  have H1 : Hid ((L ++ num b.length).length + b.length ≤ maxLen) := Lib.hid (by rw [List.length_append]; unfold maxLen; omega)
  have H2 : Hid (((L ++ num b.length).length + b.length) * 1 ≤ 140737488355328) := Lib.hid (by rw [List.length_append]; omega)
  have HR := Lib.hid hu
  clear hu hb hl hn hnl
  have hcall := layNumber_any B v L b.length (w.alloc (.cells #[.int .u64 (n : Int), .slice ab b.length cb, .slice al l.length cl] 95)).drew HN (hown.alloc _) (by simp; omega) (by omega)
  have HC := Lib.hid hcall
  clear hcall
  obtain ⟨ib, hib, hib0, hib1, hib2⟩ := info_parts infoByte
  go_enter Tryz.func76, Tryz.ntmps76
  go_wp2_with fail
  go_region_law (first | (refine step_append_own2 _ rfl (.tmp 21) (.tmp 23) 34 rfl B 5 ib (.int .u8 0) 1 1 Tryz.underlying34 hib hib0 hib1 hib2 rfl (by decide) _ _ _ rfl hown1 (.slice ab b.length cb) rfl b.length (b.map byteV) hyield H1.out H2.out hz1 ?_; intro v2 w2 happ; have hfin := (hacc.trans (Acc.of_app happ)).undrew.alloc0) | (go_simp; go_at_call 107; rw [HW.out]; refine HC.out.mono ?_; rintro e w1 ⟨v', rfl, hacc⟩; obtain ⟨b0, b1, b2, -, -, -, hz⟩ := block3 (box_kept hown hacc); have hyield := (HB.out.same (G := F) (fun _ h => h) (keeps_low hacc hF)).yields; have hown1 := hacc.1; have hz1 := size_after hB hacc))
  all_goals go_wp2_with fail
  all_goals go_ret
  all_goals exact ⟨_, rfl, by rw [← List.append_assoc]; assumption⟩

theorem lay_any (s : Sh) (d : V) (F : Nat → Prop) (B : Nat) (v u : Value) (L : List UInt8) (w : World) (hu : RepV w F d u) (hown : w.ownsRow B 5 1 v L.length (L.map byteV))
    (hB : B ≤ w.heap.size) (hL : L.length + d.b.length + 9 ≤ 1099511627776) (hF : ∀ b, F b → b < w.heap.size ∧ v.ownBlock ≠ some b) :
    Calls Tryz.prog 76 #[v, .int .u8 (kind s), u] w (LayPost w B v (L ++ headOf s d)) := by
  cases s with
  | num => exact lay_num d F B v u L w hu hown hB (by omega)
  | blob => exact lay_blob d F B v u L w hu hown hB hL hF
  | list s => exact lay_list d F B v u L w hu hown hB (by omega)
  | row l => exact lay_row d F B v u L w hu hown
end Go.Proofs.YtamgjlegcegmeaaGreatDoor.M
