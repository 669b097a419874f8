/- layNumber and lay of package mould: what they append. -/
import Derived.Test.YtafodaoehnggfaaMouldParse3
import Derived.Test.YtafodaoehnggfaaBits
namespace Go.Proofs.Ytafodaoehnggfaa.M
open Go.RowKit

theorem infoByte : (Try.prog.info? 5).map (fun i => (i.zero, i.size, i.bytes)) = some (some (.int .u8 0), 1, 1) := by kernel_rfl

def byteV (b : UInt8) : Value := .int .u8 (b.toNat : Int)

/-- A row of bytes that a call makes longer: what may have turned since the world w0, where v0 was the row. -/
def Acc (w0 : World) (B : Nat) (v0 : Value) (w : World) (v : Value) (L : List UInt8) : Prop :=
  w.ownsRow B 5 1 v L.length (L.map byteV) ∧ w0.grownBy w v0.ownBlock ∧ (v.ownBlock = v0.ownBlock ∨ ∃ g, v.ownBlock = some g ∧ w0.heap.size ≤ g)

theorem Acc.start {w : World} {B : Nat} {v : Value} {L : List UInt8} (h : w.ownsRow B 5 1 v L.length (L.map byteV)) : Acc w B v w v L :=
  ⟨h, ⟨rfl, rfl, rfl, Nat.le_refl _, fun _ _ _ => rfl⟩, .inl rfl⟩

theorem Acc.trans {w0 w1 w2 : World} {B : Nat} {v0 v1 v2 : Value} {L1 L2 : List UInt8} (h1 : Acc w0 B v0 w1 v1 L1) (h2 : Acc w1 B v1 w2 v2 L2) : Acc w0 B v0 w2 v2 L2 := by
  obtain ⟨_, g1, o1⟩ := h1
  obtain ⟨a2, g2, o2⟩ := h2
  refine ⟨a2, ⟨g2.os.trans g1.os, g2.tape.trans g1.tape, g2.output.trans g1.output, Nat.le_trans g1.size g2.size, fun k hk hn => ?_⟩, ?_⟩
  · rw [g2.block k (Nat.lt_of_lt_of_le hk g1.size) ?_, g1.block k hk hn]
    rcases o1 with o1 | ⟨g, o1, hg⟩
    · rw [o1]; exact hn
    · rw [o1]; intro h; simp at h; omega
  · rcases o2 with o2 | ⟨g, o2, hg⟩
    · rw [o2]; exact o1
    · exact .inr ⟨g, o2, Nat.le_trans g1.size hg⟩

theorem Acc.alloc {w0 w1 : World} {B : Nat} {v0 v1 : Value} {L1 : List UInt8} (h1 : Acc w0 B v0 w1 v1 L1) (o : Obj) : Acc w0 B v0 (w1.alloc o) v1 L1 :=
  h1.trans ⟨h1.1.alloc o, World.grownBy_alloc _ _ _, .inl rfl⟩

/-- One byte more, from a new block of one cell. -/
theorem Acc.push {w0 w1 w2 : World} {B : Nat} {v0 v1 v2 : Value} {L1 : List UInt8} {b : UInt8} {o : Obj} {xs : List Value} {n : Nat} (h1 : Acc w0 B v0 w1 v1 L1)
    (h : w2.ownsRow B 5 1 v2 n xs) (hn : n = L1.length + 1) (hx : xs = L1.map byteV ++ [byteV b]) (hg : (w1.alloc o).grownBy w2 v1.ownBlock)
    (ho : v2.ownBlock = v1.ownBlock ∨ v2.ownBlock = some (w1.heap.size + 1)) : Acc w0 B v0 w2 v2 (L1 ++ [b]) := by
  refine (h1.alloc o).trans ⟨by rw [List.map_append, List.length_append, List.length_singleton, ← hn]; rw [hx] at h; exact h, hg, ?_⟩
  rcases ho with ho | ho
  · exact .inl ho
  · exact .inr ⟨_, ho, by simp⟩

theorem one_new {w : World} {x : Value} {t : TypeId} {g : Nat} (hg : g = w.heap.size) :
    ∀ (j : Nat) (u : Value), [x][j]? = some u → (w.alloc (.cells #[x] t)).cell? ((⟨g, 0, none⟩ : Addr).add j) = some u := by
  subst hg
  intro j u hj
  have h := cell_of_row _ w.heap.size j _ t _ (heap_alloc_new w (.cells #[x] t))
  have e : ((⟨w.heap.size, 0, none⟩ : Addr).add j) = ⟨w.heap.size, j, none⟩ := by cases j <;> simp [Addr.add]
  rw [e, h]
  simpa using hj

/-- A measure for a counter that goes down to -1. -/
def upOne (v : Value) : Nat := (intOf v + 1).toNat

set_option maxRecDepth 100000 in
set_option maxHeartbeats 800000 in
theorem layNumber_any (B : Nat) (v : Value) (L : List UInt8) (n : Nat) (w : World) (hn : Hid ((n : Int) < 18446744073709551616)) (hown : w.ownsRow B 5 1 v L.length (L.map byteV))
    (hB : B ≤ w.heap.size) (hL : L.length ≤ 1099511627776) :
    Calls Try.prog 33 #[v, .int .u64 (n : Int)] w fun e w' => ∃ v', e = .returned v' ∧ Acc w B v w' v' (L ++ num n) := by
  obtain ⟨a, c, rfl⟩ := owned_slice hown
  obtain ⟨ib, hib, hib0, hib1, hib2⟩ := info_parts infoByte
  have hn2 : Hid (n < 18446744073709551616) := Lib.hid (by have := hn.out; omega)
  have hl8 := dig_length_le n hn2.out
  have HD : Hid ((dig 8 n).length = (blen n + 7) / 8) := Lib.hid (dig_length 8 n (by have := hn.out; omega))
  have HT : Hid (∀ j, j < (dig 8 n).length → (dig 8 n).take ((dig 8 n).length - j) = (dig 8 n).take ((dig 8 n).length - (j + 1)) ++ [UInt8.ofNat (n / 2 ^ (8 * j) % 256)]) := Lib.hid fun j hj => dig_take hn2.out hj
  have hb64 : blen n ≤ 64 := by have := hn.out; rw [blen_le]; omega
  have hlen := Len64_any n (by omega) hn w
  rw [Int.toNat_natCast] at hlen
  have HLEN := Lib.hid hlen
  rw [show num n = UInt8.ofNat (dig 8 n).length :: dig 8 n from rfl]
  clear hn2 hlen hn
  generalize dig 8 n = D at *
  generalize blen n = bl at *
  have HDI : Hid (((bl : Int) + 7) / 8 = (D.length : Int)) := Lib.hid (by rw [HD.out]; omega)
  have hdl : ((bl : Int) + 7) / 8 ≤ 8 := by omega
  go_enter Try.func33, Try.ntmps33
  go_wp2_with fail
  refine HLEN.out.mono ?_
  rintro e w1 ⟨rfl, rfl⟩
  go_wp2_with (at_builtin; refine wpList_append_own2 _ rfl (.tmp 11) (.tmp 14) 29 rfl B 5 ib (.int .u8 0) 1 1 Try.underlying29 hib hib0 hib1 hib2 rfl (by decide) _ _ _ rfl (hown.alloc _) ⟨w.heap.size, 0, none⟩ 1 1 [.int .u8 (((bl : Int) + 7) / 8)] rfl rfl ?c1 ?c2 ?c3 ?c4 ?c5 ?_)
  case c1 => exact one_new rfl
  case c2 => intro u hu; simp at hu; rw [hu]; rfl
  case c3 => unfold maxLen; omega
  case c4 => omega
  case c5 => simp; omega
  intro v1 w2 hown2 hg _ hwhere
  have hacc : Acc w B (.slice a L.length c) w2 v1 (L ++ [UInt8.ofNat D.length]) := by
    refine (Acc.start hown).push hown2 (by simp) ?_ hg (by simpa using hwhere)
    have : (UInt8.ofNat D.length).toNat = D.length := UInt8.toNat_ofNat_of_lt' (by show _ < 256; omega)
    rw [byteV, this, HDI.out]
  clear hwhere hg hown2
  go_wp2_with fail
  go_loopw [0, 6] (fun o i wr => ∃ (x : Int) (j : Nat) (v2 : Value), o = v2 ∧ i = .int .i64 x ∧ Hid (x = (j : Int) - 1) ∧ j ≤ D.length ∧
      Acc w B (.slice a L.length c) wr v2 (L ++ [UInt8.ofNat D.length] ++ D.take (D.length - j))) (fun _ i _ => upOne i)
  case atStart => exact ⟨_, D.length, v1, rfl, rfl, Lib.hid (by rw [HDI.out]), Nat.le_refl _, by simpa using hacc⟩
  case round =>
    obtain ⟨x, j, v2, rfl, rfl, HX, hj, hacc⟩ := hrel
    by_cases hj0 : 0 < j
    · have hx0 : 0 ≤ x := by have := HX.out; omega
      have hx8 : x ≤ 7 := by have := HX.out; omega
      clear hj0
      go_wp2_with (at_builtin; refine wpList_append_own2 _ rfl (.tmp 22) (.tmp 28) 29 rfl B 5 ib (.int .u8 0) 1 1 Try.underlying29 hib hib0 hib1 hib2 rfl (by decide) _ _ _ rfl (hacc.1.alloc _) ⟨wr.heap.size, 0, none⟩ 1 1 [.int .u8 ((n : Int) / 2 ^ (8 * x).toNat % 256)] rfl rfl ?d1 ?d2 ?d3 ?d4 ?d5 ?_)
      case d1 => exact one_new rfl
      case d2 => intro u hu; simp at hu; rw [hu]; rfl
      case d3 => simp; unfold maxLen; omega
      case d4 => simp; omega
      case d5 => have := hacc.2.1.size; simp; omega
      intro v3 w3 hown3 hg3 _ hwhere3
      have hacc3 : Acc w B (.slice a L.length c) w3 v3 (L ++ [UInt8.ofNat D.length] ++ D.take (D.length - (j - 1))) := by
        have hx := HX.out
        have e := HT.out (j - 1) (by omega)
        rw [show j - 1 + 1 = j from by omega] at e
        rw [e, ← List.append_assoc]
        have e2 : (8 * x).toNat = 8 * (j - 1) := by omega
        have e3 : byteV (UInt8.ofNat (n / 2 ^ (8 * (j - 1)) % 256)) = .int .u8 ((n : Int) / 2 ^ (8 * x).toNat % 256) := by
          rw [e2, byteV, UInt8.toNat_ofNat_of_lt' (by show _ < 256; omega)]
          simp
        exact hacc.push hown3 (by simp) (by rw [e3]; simp) hg3 (by simpa using hwhere3)
      have HX3 : Hid (x - 1 = ((j - 1 : Nat) : Int) - 1) := Lib.hid (by have := HX.out; omega)
      have hj3 : j - 1 ≤ D.length := by omega
      clear hwhere3 hg3 hown3
      go_wp2_with fail
      go_roundw
      case rel => exact ⟨x - 1, j - 1, v3, rfl, rfl, HX3, hj3, hacc3⟩
      case measure => simp [upOne, intOf]; omega
    · have hx0 : x < 0 := by have := HX.out; omega
      have HJ : Hid (D.length - j = D.length) := Lib.hid (by omega)
      clear hj0
      go_wp2_with fail
      go_ret
      refine ⟨_, rfl, ?_⟩
      rw [HJ.out, List.take_length, List.append_assoc] at hacc
      exact hacc
end Go.Proofs.Ytafodaoehnggfaa.M
