/- The document's bytes of a configuration. -/
import Derived.Test.YtdngfbljcmbniaaTM27
import Derived.Test.YtdngfbljcmbniaaTM32
import Derived.Test.YtdngfbljcmbniaaTM33
namespace Go.Proofs.Ytdngfbljcmbniaa.M
open Go.RowKit

def numsB (l : List Int) : List UInt8 := (l.map fun x => num (asNum x)).flatten

theorem putV_nums (l : List Int) : ((l.map numV).map (putV .num)).flatten = numsB l := by
  unfold numsB
  rw [List.map_map]
  rfl

theorem confB_eq (c : Cf) : confB c = num c.v.length ++ numsB c.v ++ num c.l.length ++ numsB c.l := by
  unfold confB shC confV
  rw [putV]
  simp only [V.l, putVs]
  rw [putV, putV]
  simp only [V.l, List.length_map, putV_nums, List.append_nil, List.append_assoc]

theorem numsB_snoc {l : List Int} {k : Nat} (h : k < l.length) : numsB (l.take (k + 1)) = numsB (l.take k) ++ num (asNum l[k]) := by
  unfold numsB
  rw [List.take_succ_eq_append_getElem h, List.map_append, List.flatten_append]
  simp

theorem numsB_len (l : List Int) : (numsB l).length ≤ 9 * l.length := by
  induction l with
  | nil => simp [numsB]
  | cons x l ih =>
    have := num_le (asNum x)
    unfold numsB at ih ⊢
    simp only [List.map_cons, List.flatten_cons, List.length_append, List.length_cons]
    omega

set_option maxRecDepth 20000 in
set_option maxHeartbeats 1600000 in
theorem RefBytesC_any (c : Cf) (F : Nat → Prop) (vv lv : Value) (w : World) (hv : RepI w F c.v vv) (hl : RepI w F c.l lv) (hF : ∀ k, F k → k < w.heap.size) (h1 : c.v.length ≤ 1000000) (h2 : c.l.length ≤ 1000000) :
    Calls Try.prog 10 #[.agg #[vv, lv]] w fun e w' => ∃ u base, e = .returned u ∧ Below w.heap.size w w' ∧ w.heap.size ≤ base ∧ w'.ownsRow base 5 1 u (confB c).length ((confB c).map byteV) := by
  obtain ⟨va, vk, hvv, -⟩ := hv.slice
  obtain ⟨la, lk, hlv, -⟩ := hl.slice
  obtain ⟨n, hn⟩ : ∃ n, n = c.v.length := ⟨_, rfl⟩
  obtain ⟨m, hm⟩ : ∃ m, m = c.l.length := ⟨_, rfl⟩
  rw [← hn] at hvv
  rw [← hm] at hlv
  subst hvv hlv
  obtain ⟨W, hW⟩ : ∃ W, W = w.alloc (.cells #[.slice va n vk, .slice la m lk] 25) := ⟨_, rfl⟩
  obtain ⟨g, hg⟩ : ∃ g, g = w.heap.size := ⟨_, rfl⟩
  have HB : Hid (Below w.heap.size w W) := Lib.hid (by rw [hW]; exact below_alloc _ _)
  have HX : Hid (∀ w', Below W.heap.size W w' → w'.heap[g]? = some (.cells #[.slice va n vk, .slice la m lk] 25)) := Lib.hid fun w' h => old_below (by rw [hW, hg]; exact heap_alloc_new _ _) h
  have HV : Hid (RepI W F c.v (.slice va n vk)) := Lib.hid (hv.below hF HB.out)
  have HL : Hid (RepI W F c.l (.slice la m lk)) := Lib.hid (hl.below hF HB.out)
  have HF : Hid (∀ k, F k → k < W.heap.size) := Lib.hid fun k hk => Nat.lt_of_lt_of_le (hF k hk) HB.out.size
  have HN := Lib.hid hn
  have HM := Lib.hid hm
  have HW := Lib.hid hW
  have HG := Lib.hid hg
  have hn1 : n ≤ 1000000 := by omega
  have hm1 : m ≤ 1000000 := by omega
  obtain ⟨LL, hLL⟩ : ∃ LL, LL = confB c := ⟨_, rfl⟩
  have HLL : Hid (LL = num n ++ numsB c.v ++ num m ++ numsB c.l) := Lib.hid (by rw [hLL, confB_eq, hn, hm])
  rw [← hLL]
  have hwn : IntKind.u64.wrap (n : Int) = (n : Int) := by rw [IntKind.wrap_u64]; omega
  have hwm : IntKind.u64.wrap (m : Int) = (m : Int) := by rw [IntKind.wrap_u64]; omega
  clear hv hl hF hn hm hW hg h1 h2 hLL
  go_enter Try.func10, Try.ntmps10
  go_wp2_with fail
  rw [← HG.out, ← HW.out]
  obtain ⟨c0, c1, -, -, -⟩ := block2' (HX.out W (Below.refl _ _))
  go_wp2_with fail
  refine (Number_any n W (Lib.hid (by omega))).mono ?_
  rintro e w2 ⟨u, rfl, hb2, hu⟩
  have HO : Hid (Own W (num n) u w2) := Lib.hid ⟨hb2, hu⟩
  obtain ⟨ua, uc, rfl⟩ := HO.out.slice
  clear hb2 hu c0 c1
  go_wp2_with fail
  go_loopg [3, 4] n (fun gk bv iv wr => ∃ k : Nat, k + gk = n ∧ iv = .int .i64 (k : Int) ∧ (∃ ba bn bc, bv = .slice ba bn bc) ∧ Hid (Own W (num n ++ numsB (c.v.take k)) bv wr))
  case atStart => exact ⟨0, by omega, rfl, ⟨_, _, _, rfl⟩, Lib.hid (by simpa [numsB] using HO.out)⟩
  case round =>
    obtain ⟨k, hk, rfl, ⟨ba, bn, bc, rfl⟩, HK⟩ := hrel
    obtain ⟨c0, c1, -, -, -⟩ := block2' (HX.out wr HK.out.1)
    by_cases hkn : k < n
    · have hkn2 : (k : Int) < (n : Int) := by omega
      obtain ⟨eb, eo, rfl, heF, hec, her⟩ := (HV.out.same (w' := wr) (G := F) (fun _ h => h) fun j hj => HK.out.1.block j (HF.out j hj)).elem' HN.out k hkn
      obtain ⟨x, hx⟩ : ∃ x, x = c.v[k]'(by rw [← HN.out]; exact hkn) := ⟨_, rfl⟩
      rw [← hx] at hec her
      have hax : IntKind.u64.wrap x = ((asNum x : Nat) : Int) := (asNum_eq x).symm
      have HX2 := Lib.hid hx
      clear hx heF
      go_wp2_with fail
      refine (Number_any (asNum x) wr (Lib.hid (by have := asNum_lt x; omega))).mono ?_
      rintro e w3 ⟨u3, rfl, hb3, hu3⟩
      have HK3 : Hid (Own W (num n ++ numsB (c.v.take k)) (.slice ba bn bc) w3) := Lib.hid (HK.out.next hb3)
      have HU3 : Hid (RepB w3 _ (num (asNum x)) u3) := Lib.hid (RepB.of_own hu3)
      obtain ⟨za, zc, rfl⟩ := owned_slice hu3
      have hlen : (num n ++ numsB (c.v.take k)).length + (num (asNum x)).length ≤ 140737488355328 := by
        have q1 := num_le n
        have q2 := numsB_len (c.v.take k)
        have q3 := num_le (asNum x)
        rw [List.length_take] at q2
        rw [List.length_append]
        omega
      have HLEN := Lib.hid hlen
      clear hb3 hu3 hlen c0 c1
      go_wp2_with (at_builtin; go_loud (refine wpList_own_append (w := W) rfl _ _ rfl rfl rfl HK3.out rfl HU3.out HLEN.out ?_))
      intro v4 w4 ho4
      rw [← List.append_assoc] at ho4
      have HO4 : Hid (Own W (num n ++ numsB (c.v.take k) ++ num (asNum x)) v4 w4) := Lib.hid ho4
      obtain ⟨a4, k4, rfl⟩ := ho4.slice
      clear ho4
      go_wp2_with fail
      go_roundg (gk - 1)
      case measure => omega
      case rel => exact ⟨k + 1, by omega, by go_num, ⟨_, _, _, rfl⟩, Lib.hid (by rw [numsB_snoc (by rw [← HN.out]; exact hkn), ← List.append_assoc, ← HX2.out]; exact HO4.out)⟩
    · have hkn2 : ¬ (k : Int) < (n : Int) := by omega
      have hkn3 : c.v.take k = c.v := List.take_of_length_le (by rw [← HN.out]; omega)
      rw [hkn3] at HK
      clear hkn3
      go_wp2_with fail
      refine (Number_any m wr (Lib.hid (by omega))).mono ?_
      rintro e w3 ⟨u3, rfl, hb3, hu3⟩
      have HK3 : Hid (Own W (num n ++ numsB c.v) (.slice ba bn bc) w3) := Lib.hid (HK.out.next hb3)
      have HU3 : Hid (RepB w3 _ (num m) u3) := Lib.hid (RepB.of_own hu3)
      obtain ⟨za, zc, rfl⟩ := owned_slice hu3
      have HLEN : Hid ((num n ++ numsB c.v).length + (num m).length ≤ 140737488355328) := Lib.hid (by
        have q1 := num_le n
        have q2 := numsB_len c.v
        have q3 := num_le m
        rw [← HN.out] at q2
        rw [List.length_append]
        omega)
      clear hb3 hu3 c0 c1
      go_wp2_with (at_builtin; go_loud (refine wpList_own_append (w := W) rfl _ _ rfl rfl rfl HK3.out rfl HU3.out HLEN.out ?_))
      intro v4 w4 ho4
      rw [← List.append_assoc] at ho4
      have HO4 : Hid (Own W (num n ++ numsB c.v ++ num m) v4 w4) := Lib.hid ho4
      obtain ⟨a4, k4, rfl⟩ := ho4.slice
      clear ho4
      obtain ⟨l4, hl4⟩ : ∃ l4, l4 = (num n ++ numsB c.v ++ num m).length := ⟨_, rfl⟩
      rw [← hl4] at HO4 ⊢
      obtain ⟨P, hP⟩ : ∃ P, P = num n ++ numsB c.v ++ num m := ⟨_, rfl⟩
      rw [← hP] at HO4
      have HP : Hid (P.length ≤ 9000018) := Lib.hid (by
        have q1 := num_le n
        have q2 := numsB_len c.v
        have q3 := num_le m
        rw [← HN.out] at q2
        rw [hP, List.length_append, List.length_append]
        omega)
      have HPE := Lib.hid hP
      clear hP hl4
      go_wp2_with fail
      go_loopg [3, 5] m (fun gk bv iv wr => ∃ k : Nat, k + gk = m ∧ iv = .int .i64 (k : Int) ∧ (∃ ba bn bc, bv = .slice ba bn bc) ∧ Hid (Own W (P ++ numsB (c.l.take k)) bv wr))
      case atStart => exact ⟨0, by omega, rfl, ⟨_, _, _, rfl⟩, Lib.hid (by simpa [numsB] using HO4.out)⟩
      case round =>
        clear HK HK3 HU3 HLEN HO4
        obtain ⟨k, hk, rfl, ⟨ba, bn, bc, rfl⟩, HK⟩ := hrel
        obtain ⟨c0, c1, -, -, -⟩ := block2' (HX.out wr HK.out.1)
        by_cases hkn : k < m
        · have hkn2 : (k : Int) < (m : Int) := by omega
          obtain ⟨eb, eo, rfl, heF, hec, her⟩ := (HL.out.same (w' := wr) (G := F) (fun _ h => h) fun j hj => HK.out.1.block j (HF.out j hj)).elem' HM.out k hkn
          obtain ⟨x, hx⟩ : ∃ x, x = c.l[k]'(by rw [← HM.out]; exact hkn) := ⟨_, rfl⟩
          rw [← hx] at hec her
          have hax : IntKind.u64.wrap x = ((asNum x : Nat) : Int) := (asNum_eq x).symm
          have HX2 := Lib.hid hx
          clear hx heF
          go_wp2_with fail
          refine (Number_any (asNum x) wr (Lib.hid (by have := asNum_lt x; omega))).mono ?_
          rintro e w3 ⟨u3, rfl, hb3, hu3⟩
          have HK3 : Hid (Own W (P ++ numsB (c.l.take k)) (.slice ba bn bc) w3) := Lib.hid (HK.out.next hb3)
          have HU3 : Hid (RepB w3 _ (num (asNum x)) u3) := Lib.hid (RepB.of_own hu3)
          obtain ⟨za, zc, rfl⟩ := owned_slice hu3
          have HLEN : Hid ((P ++ numsB (c.l.take k)).length + (num (asNum x)).length ≤ 140737488355328) := Lib.hid (by
            have q1 := HP.out
            have q2 := numsB_len (c.l.take k)
            have q3 := num_le (asNum x)
            rw [List.length_take] at q2
            rw [List.length_append]
            omega)
          clear hb3 hu3 c0 c1
          go_wp2_with (at_builtin; go_loud (refine wpList_own_append (w := W) rfl _ _ rfl rfl rfl HK3.out rfl HU3.out HLEN.out ?_))
          intro v4 w4 ho4
          rw [← List.append_assoc] at ho4
          have HO4 : Hid (Own W (P ++ numsB (c.l.take k) ++ num (asNum x)) v4 w4) := Lib.hid ho4
          obtain ⟨a4, k4, rfl⟩ := ho4.slice
          clear ho4
          go_wp2_with fail
          go_roundg (gk - 1)
          case measure => omega
          case rel => exact ⟨k + 1, by omega, by go_num, ⟨_, _, _, rfl⟩, Lib.hid (by rw [numsB_snoc (by rw [← HM.out]; exact hkn), ← List.append_assoc, ← HX2.out]; exact HO4.out)⟩
        · have hkn2 : ¬ (k : Int) < (m : Int) := by omega
          have hkn3 : c.l.take k = c.l := List.take_of_length_le (by rw [← HM.out]; omega)
          rw [hkn3, HPE.out, ← HLL.out] at HK
          clear hkn3
          go_wp2_with fail
          go_ret
          exact ⟨_, rfl, HB.out.trans (HK.out.1.mono HB.out.size), _, HB.out.size, HK.out.2⟩
end Go.Proofs.Ytdngfbljcmbniaa.M
