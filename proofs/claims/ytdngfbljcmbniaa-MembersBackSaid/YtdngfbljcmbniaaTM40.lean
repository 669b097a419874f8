/- A configuration's bytes, there and back (plain). The statement MembersBack: whatever the input it answers true. -/
import Derived.Test.YtdngfbljcmbniaaTM34
import Derived.Test.YtdngfbljcmbniaaTM36
import Derived.Test.YtdngfbljcmbniaaTM39
import Derived.Test.YtdngfbljcmbniaaTM38
import Derived.Test.YtdngfbljcmbniaaTM21
import Derived.BigQuiet
/- Part: MmBn. -/
namespace Go.Proofs.Ytdngfbljcmbniaa.M
open Go.RowKit

theorem dig_fold8 : ∀ (k : Nat) (l : List UInt8), l.length ≤ k → l.head? ≠ some 0 → dig k (fold256 l) = l
  | 0, l, h, _ => by
    obtain rfl : l = [] := List.eq_nil_of_length_eq_zero (by omega)
    rfl
  | k + 1, l, h, h0 => by
    rcases List.eq_nil_or_concat l with rfl | ⟨t, c, rfl⟩
    · simp [fold256, dig]
    · simp only [List.concat_eq_append] at h h0 ⊢
      rw [List.length_append, List.length_singleton] at h
      have hc := c.toNat_lt
      have ht : t.head? ≠ some 0 := by
        cases t with
        | nil => simp
        | cons a t => simpa using h0
      have ih := dig_fold8 k t (by omega) ht
      rw [fold256_snoc, dig]
      have hne : fold256 t * 256 + c.toNat ≠ 0 := by
        intro h1
        have h2 : fold256 t = 0 := by omega
        have h3 : c.toNat = 0 := by omega
        rw [h2] at ih
        have h4 : t = [] := by rw [← ih]; cases k <;> simp [dig]
        rw [h4] at h0
        apply h0
        simp only [List.nil_append, List.head?_cons, Option.some.injEq]
        exact UInt8.toNat_inj.1 (by rw [h3]; rfl)
      rw [if_neg hne, show (fold256 t * 256 + c.toNat) / 256 = fold256 t by omega, show (fold256 t * 256 + c.toNat) % 256 = c.toNat by omega, ih]
      simp

/-- A number that is read off bytes stands there in its form. -/
theorem takeNum_inv8 {b r : List UInt8} {n : Nat} (h : takeNum b = .ok (n, r)) : b = num n ++ r := by
  cases b with
  | nil => rw [takeNum] at h; cases h
  | cons c b =>
    rw [takeNum] at h
    split at h
    · cases h
    · rename_i h1
      split at h
      · cases h
      · rename_i h2
        split at h
        · cases h
        · rename_i h3
          simp only [Except.ok.injEq, Prod.mk.injEq] at h
          obtain ⟨rfl, rfl⟩ := h
          have hd := dig_fold8 8 (b.take c.toNat) (by rw [List.length_take]; omega) (by
            rw [List.head?_take]
            split
            · simp
            · intro h4
              exact h2 ⟨by omega, h4⟩)
          have hf : (b.take c.toNat).foldl (fun n d => n * 256 + d.toNat) 0 = fold256 (b.take c.toNat) := rfl
          rw [hf, num, hd, List.length_take, Nat.min_eq_left (by omega)]
          simp

def numsN (a : List Nat) : List UInt8 := (a.map num).flatten

theorem numsN_len (a : List Nat) : a.length ≤ (numsN a).length := by
  induction a with
  | nil => simp
  | cons x a ih =>
    have : numsN (x :: a) = num x ++ numsN a := by simp [numsN]
    rw [this, List.length_append, List.length_cons]
    have h1 : 0 < (num x).length := by simp [num]
    omega

theorem takeNs_num : ∀ (a : List Nat) (r : List UInt8), (∀ n ∈ a, n < 18446744073709551616) → takeNs a.length (numsN a ++ r) = .ok (a, r)
  | [], r, _ => rfl
  | x :: a, r, h => by
    have : numsN (x :: a) ++ r = num x ++ (numsN a ++ r) := by simp [numsN]
    rw [this, List.length_cons, takeNs, take_num x _ (h x (by simp))]
    simp only
    rw [takeNs_num a r fun n hn => h n (by simp [hn])]

theorem takeLs_num (a : List Nat) (r : List UInt8) (hl : a.length < 18446744073709551616) (h : ∀ n ∈ a, n < 18446744073709551616) : takeLs (num a.length ++ (numsN a ++ r)) = .ok (a, r) := by
  unfold takeLs
  rw [take_num _ _ hl]
  simp only
  have := numsN_len a
  rw [if_neg (by rw [List.length_append]; omega), takeNs_num a r h]

theorem takeLL_num (a b : List Nat) (hla : a.length < 18446744073709551616) (hlb : b.length < 18446744073709551616) (ha : ∀ n ∈ a, n < 18446744073709551616) (hb : ∀ n ∈ b, n < 18446744073709551616) :
    takeLL 2 (num a.length ++ (numsN a ++ (num b.length ++ (numsN b ++ [])))) = .ok ([a, b], []) := by
  unfold takeLL
  rw [takeLs_num a _ hla ha]
  simp only
  unfold takeLL
  rw [takeLs_num b _ hlb hb]
  rfl

theorem takeNs_inv : ∀ {k : Nat} {b r : List UInt8} {l : List Nat}, takeNs k b = .ok (l, r) → b = numsN l ++ r
  | 0, b, r, l, h => by
    unfold takeNs at h
    cases h
    rfl
  | k + 1, b, r, l, h => by
    unfold takeNs at h
    split at h
    · cases h
    · rename_i n1 r1 h1
      split at h
      · cases h
      · rename_i l' r' h2
        cases h
        rw [takeNum_inv8 h1, takeNs_inv h2]
        simp [numsN]

theorem takeLs_inv {b r : List UInt8} {l : List Nat} (h : takeLs b = .ok (l, r)) : b = num l.length ++ (numsN l ++ r) := by
  unfold takeLs at h
  split at h
  · cases h
  · rename_i n1 r1 h1
    split at h
    · cases h
    · rw [takeNum_inv8 h1, takeNs_inv h, takeNs_len h]

theorem takeLL_inv {L r : List UInt8} {a b : List Nat} (h : takeLL 2 L = .ok ([a, b], r)) : L = num a.length ++ (numsN a ++ (num b.length ++ (numsN b ++ r))) := by
  unfold takeLL at h
  split at h
  · cases h
  · rename_i n1 r1 h1
    split at h
    · cases h
    · rename_i l' r' h2
      cases h
      unfold takeLL at h2
      split at h2
      · cases h2
      · rename_i n2 r2 h3
        split at h2
        · cases h2
        · rename_i l2 r3 h4
          cases h2
          unfold takeLL at h4
          cases h4
          rw [takeLs_inv h1, takeLs_inv h3]

theorem numsB_eq (l : List Int) : numsB l = numsN (l.map asNum) := by
  unfold numsB numsN
  rw [List.map_map]
  rfl

theorem asNum_nat {n : Nat} (h : n ≤ 1048575) : asNum (Int.ofNat n) = n := by
  have := asNum_eq (Int.ofNat n)
  rw [IntKind.wrap_u64] at this
  have e : (Int.ofNat n) = (n : Int) := rfl
  rw [e] at this ⊢
  omega

theorem asNum_map {a : List Nat} (h : smallN a = true) : (a.map Int.ofNat).map asNum = a := by
  rw [List.map_map]
  conv => rhs; rw [← List.map_id a]
  apply List.map_congr_left
  intro n hn
  unfold smallN at h
  rw [List.all_eq_true] at h
  exact asNum_nat (by simpa using h n hn)

/-- What is parsed has the bytes that it was parsed from. -/
theorem parse_back {L : List UInt8} {c : Cf} (h : parseC L = .ok c) : confB c = L := by
  unfold parseC at h
  split at h
  · cases h
  · rename_i ds rest hq
    split at h
    · cases h
    · rename_i hr
      obtain ⟨hl, -⟩ := takeLL_len hq
      match ds, hl with
      | [a, b], _ =>
        simp only at h
        split at h
        · rename_i hs
          cases h
          rw [Bool.and_eq_true, Bool.and_eq_true] at hs
          have hr0 : rest = [] := List.eq_nil_of_length_eq_zero (by omega)
          subst hr0
          rw [takeLL_inv hq, confB_eq]
          simp only [cOf, numsB_eq, asNum_map hs.1.1, asNum_map hs.1.2, List.length_map, List.append_nil, List.append_assoc]
        · cases h

theorem asNum_small {x : Int} (hx : -9223372036854775808 ≤ x ∧ x ≤ 9223372036854775807) (h : asNum x ≤ 1048575) : Int.ofNat (asNum x) = x := by
  have := asNum_eq x
  rw [IntKind.wrap_u64] at this
  show ((asNum x : Nat) : Int) = x
  omega

theorem asNum_okN {x : Int} (h : okN x) : asNum x ≤ 1048575 := by
  have := asNum_eq x
  rw [IntKind.wrap_u64] at this
  obtain ⟨h1, h2⟩ := h
  omega

theorem smallN_back {l : List Int} (hr : In64 l) (h : smallN (l.map asNum) = true) : (l.map asNum).map Int.ofNat = l := by
  rw [List.map_map]
  conv => rhs; rw [← List.map_id l]
  apply List.map_congr_left
  intro x hx
  unfold smallN at h
  rw [List.all_eq_true] at h
  exact asNum_small (hr x hx) (by simpa using h (asNum x) (List.mem_map.2 ⟨x, hx, rfl⟩))

theorem smallN_rise {l : List Int} (h : Rise l) : smallN (l.map asNum) = true := by
  unfold smallN
  rw [List.all_eq_true]
  intro n hn
  obtain ⟨x, hx, rfl⟩ := List.mem_map.1 hn
  simpa using asNum_okN (h.1 x hx)

/-- The bytes of any configuration are parsed again, or refused. -/
theorem parse_forth (c : Cf) (hv : In64 c.v) (hl : In64 c.l) (h1 : c.v.length ≤ 60) (h2 : c.l.length ≤ 60) : parseC (confB c) = if yes c.ok then .ok c else .error 80 := by
  have hb : ∀ (l : List Int), ∀ n ∈ l.map asNum, n < 18446744073709551616 := fun l n hn => by
    obtain ⟨x, -, rfl⟩ := List.mem_map.1 hn
    exact asNum_lt x
  have hq : takeLL 2 (confB c) = .ok ([c.v.map asNum, c.l.map asNum], []) := by
    rw [← takeLL_num (c.v.map asNum) (c.l.map asNum) (by simp; omega) (by simp; omega) (hb _) (hb _), confB_eq]
    simp only [numsB_eq, List.length_map, List.append_nil, List.append_assoc]
  unfold parseC
  rw [hq]
  simp only [List.length_nil, Nat.lt_irrefl, if_false]
  cases e1 : smallN (c.v.map asNum) with
  | false =>
    have : ¬ c.ok := fun h => by rw [smallN_rise h.2.2.1] at e1; cases e1
    rw [yes_f this]
    rfl
  | true =>
    cases e2 : smallN (c.l.map asNum) with
    | false =>
      have : ¬ c.ok := fun h => by rw [smallN_rise h.2.2.2.1] at e2; cases e2
      rw [yes_f this]
      rfl
    | true =>
      have : cOf (c.v.map asNum) (c.l.map asNum) = c := by
        unfold cOf
        rw [smallN_back hv e1, smallN_back hl e2]
      rw [this]
      rfl
theorem takeNs_code : ∀ {k : Nat} {b : List UInt8} {e : Int}, takeNs k b = .error e → e = 11 ∨ e = 13
  | 0, b, e, h => by
    unfold takeNs at h
    cases h
  | k + 1, b, e, h => by
    unfold takeNs at h
    split at h
    · rename_i h1
      cases h
      exact takeNum_error h1
    · split at h
      · rename_i h2
        cases h
        exact takeNs_code h2
      · cases h

theorem takeLs_code {b : List UInt8} {e : Int} (h : takeLs b = .error e) : e = 11 ∨ e = 13 := by
  unfold takeLs at h
  split at h
  · rename_i h1
    cases h
    exact takeNum_error h1
  · split at h
    · cases h
      exact .inl rfl
    · exact takeNs_code h

theorem takeLL_code : ∀ {k : Nat} {b : List UInt8} {e : Int}, takeLL k b = .error e → e = 11 ∨ e = 13
  | 0, b, e, h => by
    unfold takeLL at h
    cases h
  | k + 1, b, e, h => by
    unfold takeLL at h
    split at h
    · rename_i h1
      cases h
      exact takeLs_code h1
    · split at h
      · rename_i h2
        cases h
        exact takeLL_code h2
      · cases h

/-- Parse's errors. -/
theorem parseC_code {L : List UInt8} {e : Int} (h : parseC L = .error e) : (e == 0) = false := by
  have : e = 11 ∨ e = 13 ∨ e = 12 ∨ e = 80 := by
    unfold parseC at h
    split at h
    · rename_i h1
      cases h
      rcases takeLL_code h1 with h | h
      · exact .inl h
      · exact .inr (.inl h)
    · split at h
      · cases h
        exact .inr (.inr (.inl rfl))
      · split at h
        · split at h
          · cases h
          · cases h
            exact .inr (.inr (.inr rfl))
        · cases h
          exact .inr (.inr (.inr rfl))
  rcases this with rfl | rfl | rfl | rfl <;> rfl
end Go.Proofs.Ytdngfbljcmbniaa.M

/- Part: LawMmBack. -/
namespace Go.Proofs.Ytdngfbljcmbniaa.M
open Go.RowKit

theorem str_at {w : World} {F : Nat → Prop} {L : List UInt8} {v : Value} (h : RepB w F L v) : (convert 22 9 v).run Try.prog w = .ok (.string (strOf L)) w :=
  run_string (P := Try.prog) h 22 5 9 Try.underlying22 Try.underlying5 Try.underlying9




set_option maxRecDepth 20000 in
set_option maxHeartbeats 12800000 in
theorem MembersBack_any (b : List UInt8) (c : Cf) (bv vv lv : Value) (w : World) (hb : RepB w (fun k => k < w.heap.size) b bv) (hv : RepI w (fun k => k < w.heap.size) c.v vv) (hl : RepI w (fun k => k < w.heap.size) c.l lv) :
    Calls Try.prog 3 #[bv, .agg #[vv, lv]] w fun e w' => e = .returned (.bool true) ∧ Below w.heap.size w w' := by
  obtain ⟨ba, bc, hbv, -⟩ := hb.slice
  obtain ⟨va, vk, hvv, -⟩ := hv.slice
  obtain ⟨la, lk, hlv, -⟩ := hl.slice
  obtain ⟨n, hn⟩ : ∃ n, n = c.v.length := ⟨_, rfl⟩
  obtain ⟨m, hm⟩ : ∃ m, m = c.l.length := ⟨_, rfl⟩
  obtain ⟨q, hq⟩ : ∃ q, q = b.length := ⟨_, rfl⟩
  rw [← hn] at hvv
  rw [← hm] at hlv
  rw [← hq] at hbv
  subst hvv hlv hbv
  obtain ⟨W, hW⟩ : ∃ W, W = w.alloc (.cells #[.slice va n vk, .slice la m lk] 25) := ⟨_, rfl⟩
  obtain ⟨g3, hg3⟩ : ∃ g, g = w.heap.size := ⟨_, rfl⟩
  have HBW : Hid (Below w.heap.size w W) := Lib.hid (by rw [hW]; exact below_alloc _ _)
  have HX3 : Hid (∀ w', Below W.heap.size W w' → w'.heap[g3]? = some (.cells #[.slice va n vk, .slice la m lk] 25)) := Lib.hid fun w' h => old_below (by rw [hW, hg3]; exact heap_new _ _ _ rfl) h
  have HB : Hid (∀ w', Below W.heap.size W w' → RepB w' (fun k => k < w.heap.size) b (.slice ba q bc)) := Lib.hid fun w' h => hb.same (fun _ h => h) fun k hk => (HBW.out.trans (h.mono HBW.out.size)).block k hk
  have HV : Hid (∀ w', Below W.heap.size W w' → RepI w' (fun k => k < w.heap.size) c.v (.slice va n vk)) := Lib.hid fun w' h => hv.same (fun _ h => h) fun k hk => (HBW.out.trans (h.mono HBW.out.size)).block k hk
  have HL : Hid (∀ w', Below W.heap.size W w' → RepI w' (fun k => k < w.heap.size) c.l (.slice la m lk)) := Lib.hid fun w' h => hl.same (fun _ h => h) fun k hk => (HBW.out.trans (h.mono HBW.out.size)).block k hk
  have HIN : Hid (In64 c.v ∧ In64 c.l) := Lib.hid ⟨hv.rng, hl.rng⟩
  have HN := Lib.hid hn
  have HM := Lib.hid hm
  have HQ := Lib.hid hq
  have HW := Lib.hid hW
  have HG3 := Lib.hid hg3
  clear hb hv hl hn hm hq hW hg3
  go_enter Try.func3, Try.ntmps3
  go_wp2_with fail
  rw [← HW.out, ← HG3.out]
  refine (awake8_any _).mono ?_
  rintro e w1 ⟨rfl, hb1⟩
  have HB1 : Hid (Below W.heap.size W w1) := Lib.hid hb1
  clear hb1
  by_cases hq5 : 500 < q
  · have hq6 : (500 : Int) < (q : Int) := by omega
    go_wp2_with fail
    refine (awake8_any _).mono ?_
    rintro e w2 ⟨rfl, hb2⟩
    have HB2 : Hid (Below W.heap.size W w2) := Lib.hid (HB1.out.trans (hb2.mono HB1.out.size))
    clear hb2
    go_wp2_with fail
    go_ret
    exact ⟨rfl, HBW.out.trans (HB2.out.mono HBW.out.size)⟩
  · have hq6 : ¬ (500 : Int) < (q : Int) := by omega
    obtain ⟨c0, c1, -, -, cz⟩ := block2' (HX3.out w1 HB1.out)
    go_wp2_with fail
    refine (small_any c _ _ _ w1 (HV.out w1 HB1.out) (HL.out w1 HB1.out)).mono ?_
    rintro e w2 ⟨rfl, hb2⟩
    have HB2 : Hid (Below W.heap.size W w2) := Lib.hid (HB1.out.trans (hb2.mono HB1.out.size))
    clear hb2 c0 c1 cz
    by_cases hs : c.v.length ≤ 60 ∧ c.l.length ≤ 60
    · rw [decide_eq_true hs]
      have HS := Lib.hid hs
      clear hs
      have HO0 : Hid (Own w2 [] (.slice (some ⟨w2.heap.size, 0, none⟩) 0 0) (w2.alloc (.cells #[] 5))) := Lib.hid (Own.lit (Below.refl _ _) rfl)
      have HY : Hid (RepB (w2.alloc (.cells #[] 5)) (fun k => k < w.heap.size) b (.slice ba q bc)) := Lib.hid (HB.out _ (HB2.out.alloc HB2.out.size _))
      have HLE : Hid (([] : List UInt8).length + b.length ≤ 140737488355328) := Lib.hid (by rw [← HQ.out]; simp; omega)
      go_wp2_with (at_builtin; go_loud (refine wpList_own_append (w := w2) (L := []) (L2 := b) rfl _ _ rfl rfl rfl HO0.out rfl HY.out HLE.out ?_))
      intro u3 w3 ho3
      have HB3 : Hid (Below W.heap.size W w3) := Lib.hid (HB2.out.trans (ho3.1.mono HB2.out.size))
      have HMP := Lib.hid (mParse_any b _ u3 (by rw [← HQ.out]; omega) w3 ho3.rep (fun k hk => hk.2))
      have HRP : Hid (∀ w', Below W.heap.size W w' → Calls Try.prog 7 #[.slice ba q bc] w' (PrsPost (parseC b) w')) := Lib.hid fun w' h => RefParse_any b _ _ (by rw [← HQ.out]; omega) w' (HB.out w' h) fun k hk => Nat.lt_of_lt_of_le hk (Nat.le_trans HBW.out.size h.size)
      obtain ⟨ua, uc, hu3⟩ := ho3.slice
      rw [← HQ.out] at hu3
      subst hu3
      clear ho3
      go_wp2_with fail
      refine HMP.out.mono ?_
      rintro e w4 ⟨hb4, hr4⟩
      have HB4 : Hid (Below W.heap.size W w4) := Lib.hid (HB3.out.trans (hb4.mono HB3.out.size))
      have HPB := Lib.hid (fun c' => parse_back (L := b) (c := c'))
      clear hb4
      cases hp : parseC b with
      | error z =>
        rw [hp] at hr4 HRP
        subst hr4
        have hz := parseC_code hp
        clear hp
        go_wp2_with fail
        obtain ⟨W5, hW5⟩ : ∃ W5, W5 = w4.alloc (.cells #[.slice none 0 0, .slice none 0 0] 25) := ⟨_, rfl⟩
        obtain ⟨g5, hg5⟩ : ∃ g5, g5 = w4.heap.size := ⟨_, rfl⟩
        have HX5 : Hid (W5.heap[g5]? = some (.cells #[.slice none 0 0, .slice none 0 0] 25)) := Lib.hid (by rw [hW5]; exact heap_new _ _ _ hg5)
        have HB5 : Hid (Below W.heap.size W W5) := Lib.hid (by rw [hW5]; exact HB4.out.alloc HB4.out.size _)
        rw [← hW5, ← hg5]
        clear hW5 hg5
        refine (HRP.out W5 HB5.out).mono ?_
        rintro e w6 ⟨hb6, hr6⟩
        subst hr6
        have HX56 : Hid (w6.heap[g5]? = some (.cells #[.slice none 0 0, .slice none 0 0] 25)) := Lib.hid (old_below HX5.out hb6)
        have HB6 : Hid (Below W.heap.size W w6) := Lib.hid (HB5.out.trans (hb6.mono HB5.out.size))
        clear hb6
        go_wp2_with fail
        obtain ⟨W7, hW7⟩ : ∃ W7, W7 = w6.alloc (.cells #[.slice none 0 0, .slice none 0 0] 25) := ⟨_, rfl⟩
        obtain ⟨g7, hg7⟩ : ∃ g7, g7 = w6.heap.size := ⟨_, rfl⟩
        have hx7 : W7.heap[g7]? = some (.cells #[.slice none 0 0, .slice none 0 0] 25) := by rw [hW7]; exact heap_new _ _ _ hg7
        have hx5 : W7.heap[g5]? = some (.cells #[.slice none 0 0, .slice none 0 0] 25) := by rw [hW7]; exact old_alloc HX56.out
        have HB7 : Hid (Below W.heap.size W W7) := Lib.hid (by rw [hW7]; exact HB6.out.alloc HB6.out.size _)
        rw [← hW7, ← hg7]
        clear hW7 hg7
        refine wp_region_held (S := fun w' => Below W7.heap.size W7 w') (by kernel_rfl) ?_
        have hs0 : Below W7.heap.size W7 W7.drew := below_drew1 W7
        have r0 : ∀ w', Below W7.heap.size W7 w' → w'.cell? ⟨g5, 0, none⟩ = some (.slice none 0 0) := fun w' hw' => (block2' (old_below hx5 hw')).1
        have r1 : ∀ w', Below W7.heap.size W7 w' → w'.cell? ⟨g5, 1, none⟩ = some (.slice none 0 0) := fun w' hw' => (block2' (old_below hx5 hw')).2.1
        have r2 : ∀ w', Below W7.heap.size W7 w' → w'.cell? ⟨g7, 0, none⟩ = some (.slice none 0 0) := fun w' hw' => (block2' (old_below hx7 hw')).1
        have r3 : ∀ w', Below W7.heap.size W7 w' → w'.cell? ⟨g7, 1, none⟩ = some (.slice none 0 0) := fun w' hw' => (block2' (old_below hx7 hw')).2.1
        refine H_take (i := 0) (v := ?_) rfl (by as_aux_lemma => kernel_rfl) (by as_aux_lemma => kernel_rfl) (by as_aux_lemma => kernel_rfl) (fun _ _ _ h => h) (by rfl) hs0 ?_ ?_
        rotate_left
        · intro w' hw'; go_simp; with_reducible rfl
        go_simp
        refine H_take (i := 1) (v := ?_) rfl (by as_aux_lemma => kernel_rfl) (by as_aux_lemma => kernel_rfl) (by as_aux_lemma => kernel_rfl) (fun _ _ _ h => h) (by rfl) hs0 ?_ ?_
        rotate_left
        · intro w' hw'; go_simp; with_reducible rfl
        go_simp
        refine H_take (i := 2) (v := ?_) rfl (by as_aux_lemma => kernel_rfl) (by as_aux_lemma => kernel_rfl) (by as_aux_lemma => kernel_rfl) (fun _ _ _ h => h) (by rfl) hs0 ?_ ?_
        rotate_left
        · intro w' hw'; go_simp; with_reducible rfl
        go_simp
        refine H_take (i := 3) (v := ?_) rfl (by as_aux_lemma => kernel_rfl) (by as_aux_lemma => kernel_rfl) (by as_aux_lemma => kernel_rfl) (fun _ _ _ h => h) (by rfl) hs0 ?_ ?_
        rotate_left
        · intro w' hw'; go_simp; with_reducible rfl
        go_simp
        refine H_take (i := 4) (v := ?_) rfl (by as_aux_lemma => kernel_rfl) (by as_aux_lemma => kernel_rfl) (by as_aux_lemma => kernel_rfl) (fun _ _ _ h => h) (by rfl) hs0 ?_ ?_
        rotate_left
        · intro w' hw'; go_simp; with_reducible rfl
        go_simp
        refine H_take (i := 5) (v := ?_) rfl (by as_aux_lemma => kernel_rfl) (by as_aux_lemma => kernel_rfl) (by as_aux_lemma => kernel_rfl) (fun _ _ _ h => h) (by rfl) hs0 ?_ ?_
        rotate_left
        · intro w' hw'; go_simp; with_reducible rfl
        go_simp
        refine H_one (i := 6) (by as_aux_lemma => kernel_rfl) rfl (by rfl) ?_
        go_simp
        have hnil : RepI W7.drew (fun k => k < W7.heap.size) [] (.slice none 0 0) := .inl ⟨rfl, Bare.nil⟩
        refine (RefSame_any ⟨[], []⟩ ⟨[], []⟩ _ _ _ _ _ _ W7.drew hnil hnil hnil hnil (fun _ h => h) (fun _ h => h)).mono ?_
        rw [yes_t rfl]
        rintro e w8 ⟨rfl, hb8⟩
        have hs8 : Below W7.heap.size W7 w8 := hs0.trans (hb8.mono hs0.size)
        clear hb8 hnil
        refine ⟨hs8, ?_⟩
        go_simp
        refine H_take (i := 7) (v := ?_) rfl (by as_aux_lemma => kernel_rfl) (by as_aux_lemma => kernel_rfl) (by as_aux_lemma => kernel_rfl) (fun _ _ _ h => h) (by rfl) hs8 ?_ ?_
        rotate_left
        · intro w' hw'; go_simp; with_reducible rfl
        go_simp
        refine H_take (i := 8) (v := ?_) rfl (by as_aux_lemma => kernel_rfl) (by as_aux_lemma => kernel_rfl) (by as_aux_lemma => kernel_rfl) (fun _ _ _ h => h) (by rfl) hs8 ?_ ?_
        rotate_left
        · intro w' hw'; go_simp; with_reducible rfl
        go_simp
        refine H_take (i := 9) (v := ?_) rfl (by as_aux_lemma => kernel_rfl) (by as_aux_lemma => kernel_rfl) (by as_aux_lemma => kernel_rfl) (fun _ _ _ h => h) (by rfl) hs8 ?_ ?_
        rotate_left
        · intro w' hw'; go_simp; with_reducible rfl
        go_simp
        refine H_take (i := 10) (v := ?_) rfl (by as_aux_lemma => kernel_rfl) (by as_aux_lemma => kernel_rfl) (by as_aux_lemma => kernel_rfl) (fun _ _ _ h => h) (by rfl) hs8 ?_ ?_
        rotate_left
        · intro w' hw'; go_simp; with_reducible rfl
        go_simp
        refine H_take (i := 11) (v := ?_) rfl (by as_aux_lemma => kernel_rfl) (by as_aux_lemma => kernel_rfl) (by as_aux_lemma => kernel_rfl) (fun _ _ _ h => h) (by rfl) hs8 ?_ ?_
        rotate_left
        · intro w' hw'; go_simp; with_reducible rfl
        go_simp
        refine H_take (i := 12) (v := ?_) rfl (by as_aux_lemma => kernel_rfl) (by as_aux_lemma => kernel_rfl) (by as_aux_lemma => kernel_rfl) (fun _ _ _ h => h) (by rfl) hs8 ?_ ?_
        rotate_left
        · intro w' hw'; go_simp; with_reducible rfl
        go_simp
        refine H_skip (i := 13) rfl (by as_aux_lemma => kernel_rfl) (by as_aux_lemma => kernel_rfl) (by as_aux_lemma => kernel_rfl) (fun _ _ _ h => h) (by rfl) hs8 ?_
        go_simp
        refine H_skip (i := 14) rfl (by as_aux_lemma => kernel_rfl) (by as_aux_lemma => kernel_rfl) (by as_aux_lemma => kernel_rfl) (fun _ _ _ h => h) (by rfl) hs8 ?_
        go_simp
        refine H_skip (i := 15) rfl (by as_aux_lemma => kernel_rfl) (by as_aux_lemma => kernel_rfl) (by as_aux_lemma => kernel_rfl) (fun _ _ _ h => h) (by rfl) hs8 ?_
        go_simp
        refine H_skip (i := 16) rfl (by as_aux_lemma => kernel_rfl) (by as_aux_lemma => kernel_rfl) (by as_aux_lemma => kernel_rfl) (fun _ _ _ h => h) (by rfl) hs8 ?_
        go_simp
        refine H_skip (i := 17) rfl (by as_aux_lemma => kernel_rfl) (by as_aux_lemma => kernel_rfl) (by as_aux_lemma => kernel_rfl) (fun _ _ _ h => h) (by rfl) hs8 ?_
        go_simp
        refine H_skip (i := 18) rfl (by as_aux_lemma => kernel_rfl) (by as_aux_lemma => kernel_rfl) (by as_aux_lemma => kernel_rfl) (fun _ _ _ h => h) (by rfl) hs8 ?_
        go_simp
        refine H_take (i := 19) (v := ?_) rfl (by as_aux_lemma => kernel_rfl) (by as_aux_lemma => kernel_rfl) (by as_aux_lemma => kernel_rfl) (fun _ _ _ h => h) (by rfl) hs8 ?_ ?_
        rotate_left
        · intro w' hw'; go_simp; with_reducible rfl
        go_simp
        refine H_take (i := 20) (v := ?_) rfl (by as_aux_lemma => kernel_rfl) (by as_aux_lemma => kernel_rfl) (by as_aux_lemma => kernel_rfl) (fun _ _ _ h => h) (by rfl) hs8 ?_ ?_
        rotate_left
        · intro w' hw'; go_simp; with_reducible rfl
        go_simp
        refine wpAnyH_done (by as_aux_lemma => kernel_rfl) ?_ _
        have HB8 : Hid (Below W.heap.size W w8) := Lib.hid (HB7.out.trans (hs8.mono HB7.out.size))
        clear hs8 hs0 r0 r1 r2 r3
        obtain ⟨c0, c1, -, -, cz⟩ := block2' (HX3.out w8 HB8.out)
        go_wp2_with fail
        refine (mBytes_any c _ _ _ w8 (HV.out w8 HB8.out) (HL.out w8 HB8.out) (fun k hk => Nat.lt_of_lt_of_le hk (Nat.le_trans HBW.out.size HB8.out.size)) (by have := HS.out; omega) (by have := HS.out; omega)).mono ?_
        rintro e w9 ⟨ur, base, rfl, hb9, hbs, hown9⟩
        have HB9 : Hid (Below W.heap.size W w9) := Lib.hid (HB8.out.trans (hb9.mono HB8.out.size))
        have HR9 : Hid (RepB w9 _ (confB c) ur) := Lib.hid (RepB.of_own hown9)
        obtain ⟨ra, rc, hur⟩ := owned_slice hown9
        obtain ⟨nr, hnr⟩ : ∃ nr, nr = (confB c).length := ⟨_, rfl⟩
        rw [← hnr] at hur
        subst hur
        have HNR := Lib.hid hnr
        clear hb9 hbs hown9 hnr c0 c1 cz
        go_wp2_with fail
        have hlc : (confB c).length ≤ 500000 := by
          rw [confB_eq]
          have q1 := num_le c.v.length
          have q2 := num_le c.l.length
          have q3 := numsB_len c.v
          have q4 := numsB_len c.l
          have := HS.out
          simp only [List.length_append]
          omega
        refine (mParse_any (confB c) _ _ hlc w9 HR9.out (fun k hk => hk.2)).mono ?_
        rw [parse_forth c HIN.out.1 HIN.out.2 HS.out.1 HS.out.2]
        rintro e wa ⟨hba, hra⟩
        have HBA : Hid (Below W.heap.size W wa) := Lib.hid (HB9.out.trans (hba.mono HB9.out.size))
        have HRA : Hid (RepB wa _ (confB c) (.slice ra nr rc)) := Lib.hid (HR9.out.same (fun _ h => h) fun k hk => hba.block k hk.2)
        have HZA : Hid (w9.heap.size ≤ wa.heap.size) := Lib.hid hba.size
        clear hba hlc
        by_cases hok : c.ok
        · rw [yes_t hok] at hra
          obtain ⟨pv, pl, rfl, hpv, hpl⟩ := hra
          have HPV : Hid (RepI wa (fun k => k < wa.heap.size) c.v pv) := Lib.hid (hpv.same (fun _ h => h.2) fun _ _ => rfl)
          have HPL : Hid (RepI wa (fun k => k < wa.heap.size) c.l pl) := Lib.hid (hpl.same (fun _ h => h.2) fun _ _ => rfl)
          obtain ⟨pa, pk, e5, -⟩ := hpv.slice
          obtain ⟨qa, qk, e6, -⟩ := hpl.slice
          rw [← HN.out] at e5
          rw [← HM.out] at e6
          subst e5 e6
          clear hpv hpl
          go_wp2_with fail
          obtain ⟨wb, hwb⟩ : ∃ wb, wb = wa.alloc (.cells #[.slice pa n pk, .slice qa m qk] 25) := ⟨_, rfl⟩
          obtain ⟨gx, hgx⟩ : ∃ gx, gx = wa.heap.size := ⟨_, rfl⟩
          have hxb : wb.heap[gx]? = some (.cells #[.slice pa n pk, .slice qa m qk] 25) := by rw [hwb]; exact heap_new _ _ _ hgx
          have HBB : Hid (Below W.heap.size W wb) := Lib.hid (by rw [hwb]; exact HBA.out.alloc HBA.out.size _)
          have HRB : Hid (RepB wb _ (confB c) (.slice ra nr rc)) := Lib.hid (HRA.out.same (fun _ h => h) fun k hk => by rw [hwb]; exact Below.heap_alloc _ _ _ (Nat.lt_of_lt_of_le hk.2 HZA.out))
          have HZB : Hid (w9.heap.size ≤ wb.heap.size) := Lib.hid (by rw [hwb]; simp; have := HZA.out; omega)
          have HKB : Hid (∀ k, k < wa.heap.size → wb.heap[k]? = wa.heap[k]?) := Lib.hid fun k hk => by rw [hwb]; exact Below.heap_alloc _ _ _ hk
          have HZAB : Hid (wa.heap.size ≤ wb.heap.size) := Lib.hid (by rw [hwb]; simp)
          rw [← hwb, ← hgx]
          clear hwb hgx
          have HXX : Hid (wb.heap[gx]? = some (.cells #[.slice pa n pk, .slice qa m qk] 25)) := Lib.hid hxb
          clear hxb
          refine wp_region_held (S := fun w' => Below wb.heap.size wb w') (by kernel_rfl) ?_
          have hs0 : Below wb.heap.size wb wb.drew := below_drew1 wb
          have r0 : ∀ w', Below wb.heap.size wb w' → w'.cell? ⟨g3, 0, none⟩ = some (.slice va n vk) := fun w' hw' => (block2' (HX3.out w' (HBB.out.trans (hw'.mono HBB.out.size)))).1
          have r1 : ∀ w', Below wb.heap.size wb w' → w'.cell? ⟨g3, 1, none⟩ = some (.slice la m lk) := fun w' hw' => (block2' (HX3.out w' (HBB.out.trans (hw'.mono HBB.out.size)))).2.1
          have hcv : ∀ w', Below wb.heap.size wb w' → (convert 22 9 (.slice ra nr rc)).run Try.prog w' = .ok (.string (strOf (confB c))) w' := fun w' hw' => str_at (HRB.out.same (fun _ h => h) fun k hk => hw'.block k (Nat.lt_of_lt_of_le hk.2 HZB.out))
          refine H_take (i := 0) (v := ?_) rfl (by as_aux_lemma => kernel_rfl) (by as_aux_lemma => kernel_rfl) (by as_aux_lemma => kernel_rfl) (fun _ _ _ h => h) (by rfl) hs0 ?_ ?_
          rotate_left
          · intro w' hw'; go_simp; with_reducible rfl
          go_simp
          refine H_take (i := 1) (v := ?_) rfl (by as_aux_lemma => kernel_rfl) (by as_aux_lemma => kernel_rfl) (by as_aux_lemma => kernel_rfl) (fun _ _ _ h => h) (by rfl) hs0 ?_ ?_
          rotate_left
          · intro w' hw'; go_simp; with_reducible rfl
          go_simp
          refine H_take (i := 2) (v := ?_) rfl (by as_aux_lemma => kernel_rfl) (by as_aux_lemma => kernel_rfl) (by as_aux_lemma => kernel_rfl) (fun _ _ _ h => h) (by rfl) hs0 ?_ ?_
          rotate_left
          · intro w' hw'; go_simp; with_reducible rfl
          go_simp
          refine H_one (i := 3) (by as_aux_lemma => kernel_rfl) rfl (by rfl) ?_
          go_simp
          refine (RefBytesC_any c _ _ _ wb.drew (HV.out _ (HBB.out.trans (hs0.mono HBB.out.size))) (HL.out _ (HBB.out.trans (hs0.mono HBB.out.size))) (fun k hk => Nat.lt_of_lt_of_le hk (Nat.le_trans HBW.out.size HBB.out.size)) (by have := HS.out; omega) (by have := HS.out; omega)).mono ?_
          rintro e wc ⟨us, base2, rfl, hbc, hbs2, hownc⟩
          have hs1 : Below wb.heap.size wb wc := hs0.trans (hbc.mono hs0.size)
          have hcv2 : (convert 22 9 us).run Try.prog wc = .ok (.string (strOf (confB c))) wc := str_at (RepB.of_own hownc)
          clear hbc hbs2 hownc
          refine ⟨hs1, ?_⟩
          go_simp
          refine H_one (i := 4) (by as_aux_lemma => kernel_rfl) rfl (by rfl) ?_
          go_simp
          refine H_take (i := 5) (v := ?_) rfl (by as_aux_lemma => kernel_rfl) (by as_aux_lemma => kernel_rfl) (by as_aux_lemma => kernel_rfl) (fun _ _ _ h => h) (by rfl) hs1 ?_ ?_
          rotate_left
          · intro w' hw'; go_simp; with_reducible rfl
          go_simp
          refine wpAnyH_done (by as_aux_lemma => kernel_rfl) ?_ _
          have HBC : Hid (Below W.heap.size W wc) := Lib.hid (HBB.out.trans (hs1.mono HBB.out.size))
          have HXC : Hid (wc.heap[gx]? = some (.cells #[.slice pa n pk, .slice qa m qk] 25)) := Lib.hid (old_below HXX.out hs1)
          have HBWC : Hid (Below wb.heap.size wb wc) := Lib.hid hs1
          clear hs0 hs1 hcv hcv2 r0 r1
          obtain ⟨c0, c1, -, -, cz⟩ := block2' (HX3.out wc HBC.out)
          go_wp2_with fail
          refine (RefRightC_any c _ _ _ wc (HV.out wc HBC.out) (HL.out wc HBC.out) (fun k hk => Nat.lt_of_lt_of_le hk (Nat.le_trans HBW.out.size HBC.out.size)) (by have := HS.out; omega)).mono ?_
          rw [yes_t hok]
          rintro e wd ⟨rfl, hbd⟩
          have HBD : Hid (Below W.heap.size W wd) := Lib.hid (HBC.out.trans (hbd.mono HBC.out.size))
          have HXD : Hid (wd.heap[gx]? = some (.cells #[.slice pa n pk, .slice qa m qk] 25)) := Lib.hid (old_below HXC.out hbd)
          have HBCD : Hid (Below wc.heap.size wc wd) := Lib.hid hbd
          clear hbd c0 c1 cz
          obtain ⟨c0, c1, -, -, cz⟩ := block2' (HX3.out wd HBD.out)
          obtain ⟨d0, d1, -, -, dz⟩ := block2' HXD.out
          go_wp2_with fail
          refine (RefSame_any c c _ _ _ _ _ _ wd (HPV.out.same (fun _ h => h) fun k hk => ((HBCD.out.block k (Nat.lt_of_lt_of_le hk (Nat.le_trans HZAB.out HBWC.out.size))).trans ((HBWC.out.block k (Nat.lt_of_lt_of_le hk HZAB.out)).trans (HKB.out k hk)))) (HPL.out.same (fun _ h => h) fun k hk => ((HBCD.out.block k (Nat.lt_of_lt_of_le hk (Nat.le_trans HZAB.out HBWC.out.size))).trans ((HBWC.out.block k (Nat.lt_of_lt_of_le hk HZAB.out)).trans (HKB.out k hk)))) (HV.out wd HBD.out) (HL.out wd HBD.out) (fun k hk => Nat.lt_of_lt_of_le hk (Nat.le_trans HZAB.out (Nat.le_trans HBWC.out.size HBCD.out.size))) (fun k hk => Nat.lt_of_lt_of_le hk (Nat.le_trans HBW.out.size HBD.out.size))).mono ?_
          rw [yes_t rfl]
          rintro e we ⟨rfl, hbe⟩
          have HBE : Hid (Below W.heap.size W we) := Lib.hid (HBD.out.trans (hbe.mono HBD.out.size))
          clear hbe
          go_wp2_with fail
          go_ret
          exact ⟨rfl, HBW.out.trans (HBE.out.mono HBW.out.size)⟩
        · rw [yes_f hok] at hra
          replace hra : e = .returned (.tuple #[.agg #[.slice none 0 0, .slice none 0 0], .int .i64 80]) := hra
          subst hra
          go_wp2_with fail
          obtain ⟨wb, hwb⟩ : ∃ wb, wb = wa.alloc (.cells #[.slice none 0 0, .slice none 0 0] 25) := ⟨_, rfl⟩
          obtain ⟨gx, hgx⟩ : ∃ gx, gx = wa.heap.size := ⟨_, rfl⟩
          have hxb : wb.heap[gx]? = some (.cells #[.slice none 0 0, .slice none 0 0] 25) := by rw [hwb]; exact heap_new _ _ _ hgx
          have HBB : Hid (Below W.heap.size W wb) := Lib.hid (by rw [hwb]; exact HBA.out.alloc HBA.out.size _)
          have HRB : Hid (RepB wb _ (confB c) (.slice ra nr rc)) := Lib.hid (HRA.out.same (fun _ h => h) fun k hk => by rw [hwb]; exact Below.heap_alloc _ _ _ (Nat.lt_of_lt_of_le hk.2 HZA.out))
          have HZB : Hid (w9.heap.size ≤ wb.heap.size) := Lib.hid (by rw [hwb]; simp; have := HZA.out; omega)
          rw [← hwb, ← hgx]
          clear hwb hgx
          have HXX : Hid (wb.heap[gx]? = some (.cells #[.slice none 0 0, .slice none 0 0] 25)) := Lib.hid hxb
          clear hxb
          refine wp_region_held (S := fun w' => Below wb.heap.size wb w') (by kernel_rfl) ?_
          have hs0 : Below wb.heap.size wb wb.drew := below_drew1 wb
          have r0 : ∀ w', Below wb.heap.size wb w' → w'.cell? ⟨g3, 0, none⟩ = some (.slice va n vk) := fun w' hw' => (block2' (HX3.out w' (HBB.out.trans (hw'.mono HBB.out.size)))).1
          have r1 : ∀ w', Below wb.heap.size wb w' → w'.cell? ⟨g3, 1, none⟩ = some (.slice la m lk) := fun w' hw' => (block2' (HX3.out w' (HBB.out.trans (hw'.mono HBB.out.size)))).2.1
          have hcv : ∀ w', Below wb.heap.size wb w' → (convert 22 9 (.slice ra nr rc)).run Try.prog w' = .ok (.string (strOf (confB c))) w' := fun w' hw' => str_at (HRB.out.same (fun _ h => h) fun k hk => hw'.block k (Nat.lt_of_lt_of_le hk.2 HZB.out))
          refine H_take (i := 0) (v := ?_) rfl (by as_aux_lemma => kernel_rfl) (by as_aux_lemma => kernel_rfl) (by as_aux_lemma => kernel_rfl) (fun _ _ _ h => h) (by rfl) hs0 ?_ ?_
          rotate_left
          · intro w' hw'; go_simp; with_reducible rfl
          go_simp
          refine H_take (i := 1) (v := ?_) rfl (by as_aux_lemma => kernel_rfl) (by as_aux_lemma => kernel_rfl) (by as_aux_lemma => kernel_rfl) (fun _ _ _ h => h) (by rfl) hs0 ?_ ?_
          rotate_left
          · intro w' hw'; go_simp; with_reducible rfl
          go_simp
          refine H_take (i := 2) (v := ?_) rfl (by as_aux_lemma => kernel_rfl) (by as_aux_lemma => kernel_rfl) (by as_aux_lemma => kernel_rfl) (fun _ _ _ h => h) (by rfl) hs0 ?_ ?_
          rotate_left
          · intro w' hw'; go_simp; with_reducible rfl
          go_simp
          refine H_one (i := 3) (by as_aux_lemma => kernel_rfl) rfl (by rfl) ?_
          go_simp
          refine (RefBytesC_any c _ _ _ wb.drew (HV.out _ (HBB.out.trans (hs0.mono HBB.out.size))) (HL.out _ (HBB.out.trans (hs0.mono HBB.out.size))) (fun k hk => Nat.lt_of_lt_of_le hk (Nat.le_trans HBW.out.size HBB.out.size)) (by have := HS.out; omega) (by have := HS.out; omega)).mono ?_
          rintro e wc ⟨us, base2, rfl, hbc, hbs2, hownc⟩
          have hs1 : Below wb.heap.size wb wc := hs0.trans (hbc.mono hs0.size)
          have hcv2 : (convert 22 9 us).run Try.prog wc = .ok (.string (strOf (confB c))) wc := str_at (RepB.of_own hownc)
          clear hbc hbs2 hownc
          refine ⟨hs1, ?_⟩
          go_simp
          refine H_one (i := 4) (by as_aux_lemma => kernel_rfl) rfl (by rfl) ?_
          go_simp
          refine H_take (i := 5) (v := ?_) rfl (by as_aux_lemma => kernel_rfl) (by as_aux_lemma => kernel_rfl) (by as_aux_lemma => kernel_rfl) (fun _ _ _ h => h) (by rfl) hs1 ?_ ?_
          rotate_left
          · intro w' hw'; go_simp; with_reducible rfl
          go_simp
          refine wpAnyH_done (by as_aux_lemma => kernel_rfl) ?_ _
          have HBC : Hid (Below W.heap.size W wc) := Lib.hid (HBB.out.trans (hs1.mono HBB.out.size))
          have HXC : Hid (wc.heap[gx]? = some (.cells #[.slice none 0 0, .slice none 0 0] 25)) := Lib.hid (old_below HXX.out hs1)
          have HBWC : Hid (Below wb.heap.size wb wc) := Lib.hid hs1
          clear hs0 hs1 hcv hcv2 r0 r1
          obtain ⟨c0, c1, -, -, cz⟩ := block2' (HX3.out wc HBC.out)
          go_wp2_with fail
          refine (RefRightC_any c _ _ _ wc (HV.out wc HBC.out) (HL.out wc HBC.out) (fun k hk => Nat.lt_of_lt_of_le hk (Nat.le_trans HBW.out.size HBC.out.size)) (by have := HS.out; omega)).mono ?_
          rw [yes_f hok]
          rintro e wd ⟨rfl, hbd⟩
          have HBD : Hid (Below W.heap.size W wd) := Lib.hid (HBC.out.trans (hbd.mono HBC.out.size))
          have HXD : Hid (wd.heap[gx]? = some (.cells #[.slice none 0 0, .slice none 0 0] 25)) := Lib.hid (old_below HXC.out hbd)
          have HBCD : Hid (Below wc.heap.size wc wd) := Lib.hid hbd
          clear hbd c0 c1 cz
          obtain ⟨c0, c1, -, -, cz⟩ := block2' (HX3.out wd HBD.out)
          obtain ⟨d0, d1, -, -, dz⟩ := block2' HXD.out
          go_wp2_with fail
          have hnil : RepI wd (fun k => k < wd.heap.size) [] (.slice none 0 0) := .inl ⟨rfl, Bare.nil⟩
          refine (RefSame_any ⟨[], []⟩ ⟨[], []⟩ _ _ _ _ _ _ wd hnil hnil hnil hnil (fun _ h => h) (fun _ h => h)).mono ?_
          rw [yes_t rfl]
          rintro e we ⟨rfl, hbe⟩
          have HBE : Hid (Below W.heap.size W we) := Lib.hid (HBD.out.trans (hbe.mono HBD.out.size))
          clear hbe hnil
          go_wp2_with fail
          go_ret
          exact ⟨rfl, HBW.out.trans (HBE.out.mono HBW.out.size)⟩
      | ok d =>
        rw [hp] at hr4 HRP
        obtain ⟨dv, dl, rfl, hdv, hdl⟩ := hr4
        have hbk := HPB.out d hp
        have HBK := Lib.hid hbk
        obtain ⟨da, dk, e5, hle1⟩ := hdv.slice
        obtain ⟨ea, ek, e6, hle2⟩ := hdl.slice
        obtain ⟨n1, hn1⟩ : ∃ n1, n1 = d.v.length := ⟨_, rfl⟩
        obtain ⟨n2, hn2⟩ : ∃ n2, n2 = d.l.length := ⟨_, rfl⟩
        rw [← hn1] at e5
        rw [← hn2] at e6
        subst e5 e6
        have HDV : Hid (RepI w4 (fun k => k < w4.heap.size) d.v (.slice da n1 dk)) := Lib.hid (hdv.same (fun _ h => h.2) fun _ _ => rfl)
        have HDL : Hid (RepI w4 (fun k => k < w4.heap.size) d.l (.slice ea n2 ek)) := Lib.hid (hdl.same (fun _ h => h.2) fun _ _ => rfl)
        have HSD : Hid (d.v.length ≤ 1000000 ∧ d.l.length ≤ 1000000) := Lib.hid (by
          have h1 := congrArg List.length hbk
          rw [confB_eq] at h1
          have q1 := numsN_len (d.v.map asNum)
          have q2 := numsN_len (d.l.map asNum)
          rw [List.length_map] at q1 q2
          simp only [List.length_append, numsB_eq] at h1
          rw [← HQ.out] at h1
          omega)
        have HN1 := Lib.hid hn1
        have HN2 := Lib.hid hn2
        clear hdv hdl hp hbk hn1 hn2 hle1 hle2
        go_wp2_with fail
        obtain ⟨W5, hW5⟩ : ∃ W5, W5 = w4.alloc (.cells #[.slice da n1 dk, .slice ea n2 ek] 25) := ⟨_, rfl⟩
        obtain ⟨g5, hg5⟩ : ∃ g5, g5 = w4.heap.size := ⟨_, rfl⟩
        have HX5 : Hid (W5.heap[g5]? = some (.cells #[.slice da n1 dk, .slice ea n2 ek] 25)) := Lib.hid (by rw [hW5]; exact heap_new _ _ _ hg5)
        have HB5 : Hid (Below W.heap.size W W5) := Lib.hid (by rw [hW5]; exact HB4.out.alloc HB4.out.size _)
        have HB45 : Hid (Below w4.heap.size w4 W5) := Lib.hid (by rw [hW5]; exact below_alloc _ _)
        rw [← hW5, ← hg5]
        clear hW5 hg5
        refine (HRP.out W5 HB5.out).mono ?_
        rintro e w6 ⟨hb6, hr6⟩
        obtain ⟨fv, fl, rfl, hfv, hfl⟩ := hr6
        obtain ⟨fa, fk, e7, -⟩ := hfv.slice
        obtain ⟨ha, hk, e8, -⟩ := hfl.slice
        rw [← HN1.out] at e7
        rw [← HN2.out] at e8
        subst e7 e8
        have HFV : Hid (RepI w6 (fun k => k < w6.heap.size) d.v (.slice fa n1 fk)) := Lib.hid (hfv.same (fun _ h => h.2) fun _ _ => rfl)
        have HFL : Hid (RepI w6 (fun k => k < w6.heap.size) d.l (.slice ha n2 hk)) := Lib.hid (hfl.same (fun _ h => h.2) fun _ _ => rfl)
        have HX56 : Hid (w6.heap[g5]? = some (.cells #[.slice da n1 dk, .slice ea n2 ek] 25)) := Lib.hid (old_below HX5.out hb6)
        have HB6 : Hid (Below W.heap.size W w6) := Lib.hid (HB5.out.trans (hb6.mono HB5.out.size))
        have HB46 : Hid (Below w4.heap.size w4 w6) := Lib.hid (HB45.out.trans (hb6.mono HB45.out.size))
        clear hb6 hfv hfl
        go_wp2_with fail
        obtain ⟨W7, hW7⟩ : ∃ W7, W7 = w6.alloc (.cells #[.slice fa n1 fk, .slice ha n2 hk] 25) := ⟨_, rfl⟩
        obtain ⟨g7, hg7⟩ : ∃ g7, g7 = w6.heap.size := ⟨_, rfl⟩
        have hx7 : W7.heap[g7]? = some (.cells #[.slice fa n1 fk, .slice ha n2 hk] 25) := by rw [hW7]; exact heap_new _ _ _ hg7
        have hx5 : W7.heap[g5]? = some (.cells #[.slice da n1 dk, .slice ea n2 ek] 25) := by rw [hW7]; exact old_alloc HX56.out
        have HB7 : Hid (Below W.heap.size W W7) := Lib.hid (by rw [hW7]; exact HB6.out.alloc HB6.out.size _)
        have HB67 : Hid (Below w6.heap.size w6 W7) := Lib.hid (by rw [hW7]; exact below_alloc _ _)
        rw [← hW7, ← hg7]
        clear hW7 hg7
        have HB47 : Hid (Below w4.heap.size w4 W7) := Lib.hid (HB46.out.trans (HB67.out.mono HB46.out.size))
        have HDV7 : Hid (∀ w', Below W7.heap.size W7 w' → RepI w' (fun k => k < W7.heap.size) d.v (.slice da n1 dk)) := Lib.hid fun w' hw' => HDV.out.same (fun k hk => Nat.lt_of_lt_of_le hk HB47.out.size) fun k hk => (HB47.out.trans (hw'.mono HB47.out.size)).block k hk
        have HDL7 : Hid (∀ w', Below W7.heap.size W7 w' → RepI w' (fun k => k < W7.heap.size) d.l (.slice ea n2 ek)) := Lib.hid fun w' hw' => HDL.out.same (fun k hk => Nat.lt_of_lt_of_le hk HB47.out.size) fun k hk => (HB47.out.trans (hw'.mono HB47.out.size)).block k hk
        have HFV7 : Hid (RepI W7.drew (fun k => k < W7.heap.size) d.v (.slice fa n1 fk)) := Lib.hid (HFV.out.same (fun k hk => Nat.lt_of_lt_of_le hk HB67.out.size) fun k hk => HB67.out.block k hk)
        have HFL7 : Hid (RepI W7.drew (fun k => k < W7.heap.size) d.l (.slice ha n2 hk)) := Lib.hid (HFL.out.same (fun k hk => Nat.lt_of_lt_of_le hk HB67.out.size) fun k hk => HB67.out.block k hk)
        refine wp_region_held (S := fun w' => Below W7.heap.size W7 w') (by kernel_rfl) ?_
        have hs0 : Below W7.heap.size W7 W7.drew := below_drew1 W7
        have r0 : ∀ w', Below W7.heap.size W7 w' → w'.cell? ⟨g5, 0, none⟩ = some (.slice da n1 dk) := fun w' hw' => (block2' (old_below hx5 hw')).1
        have r1 : ∀ w', Below W7.heap.size W7 w' → w'.cell? ⟨g5, 1, none⟩ = some (.slice ea n2 ek) := fun w' hw' => (block2' (old_below hx5 hw')).2.1
        have r2 : ∀ w', Below W7.heap.size W7 w' → w'.cell? ⟨g7, 0, none⟩ = some (.slice fa n1 fk) := fun w' hw' => (block2' (old_below hx7 hw')).1
        have r3 : ∀ w', Below W7.heap.size W7 w' → w'.cell? ⟨g7, 1, none⟩ = some (.slice ha n2 hk) := fun w' hw' => (block2' (old_below hx7 hw')).2.1
        have hcb : ∀ w', Below W7.heap.size W7 w' → (convert 22 9 (.slice ba q bc)).run Try.prog w' = .ok (.string (strOf b)) w' := fun w' hw' => str_at (HB.out w' (HB7.out.trans (hw'.mono HB7.out.size)))
        refine H_take (i := 0) (v := ?_) rfl (by as_aux_lemma => kernel_rfl) (by as_aux_lemma => kernel_rfl) (by as_aux_lemma => kernel_rfl) (fun _ _ _ h => h) (by rfl) hs0 ?_ ?_
        rotate_left
        · intro w' hw'; go_simp; with_reducible rfl
        go_simp
        refine H_take (i := 1) (v := ?_) rfl (by as_aux_lemma => kernel_rfl) (by as_aux_lemma => kernel_rfl) (by as_aux_lemma => kernel_rfl) (fun _ _ _ h => h) (by rfl) hs0 ?_ ?_
        rotate_left
        · intro w' hw'; go_simp; with_reducible rfl
        go_simp
        refine H_take (i := 2) (v := ?_) rfl (by as_aux_lemma => kernel_rfl) (by as_aux_lemma => kernel_rfl) (by as_aux_lemma => kernel_rfl) (fun _ _ _ h => h) (by rfl) hs0 ?_ ?_
        rotate_left
        · intro w' hw'; go_simp; with_reducible rfl
        go_simp
        refine H_take (i := 3) (v := ?_) rfl (by as_aux_lemma => kernel_rfl) (by as_aux_lemma => kernel_rfl) (by as_aux_lemma => kernel_rfl) (fun _ _ _ h => h) (by rfl) hs0 ?_ ?_
        rotate_left
        · intro w' hw'; go_simp; with_reducible rfl
        go_simp
        refine H_take (i := 4) (v := ?_) rfl (by as_aux_lemma => kernel_rfl) (by as_aux_lemma => kernel_rfl) (by as_aux_lemma => kernel_rfl) (fun _ _ _ h => h) (by rfl) hs0 ?_ ?_
        rotate_left
        · intro w' hw'; go_simp; with_reducible rfl
        go_simp
        refine H_take (i := 5) (v := ?_) rfl (by as_aux_lemma => kernel_rfl) (by as_aux_lemma => kernel_rfl) (by as_aux_lemma => kernel_rfl) (fun _ _ _ h => h) (by rfl) hs0 ?_ ?_
        rotate_left
        · intro w' hw'; go_simp; with_reducible rfl
        go_simp
        refine H_one (i := 6) (by as_aux_lemma => kernel_rfl) rfl (by rfl) ?_
        go_simp
        refine (RefSame_any d d _ _ _ _ _ _ W7.drew (HDV7.out _ hs0) (HDL7.out _ hs0) HFV7.out HFL7.out (fun _ h => h) (fun _ h => h)).mono ?_
        rw [yes_t rfl]
        rintro e w8 ⟨rfl, hb8⟩
        have hs8 : Below W7.heap.size W7 w8 := hs0.trans (hb8.mono hs0.size)
        clear hb8
        refine ⟨hs8, ?_⟩
        go_simp
        refine H_take (i := 7) (v := ?_) rfl (by as_aux_lemma => kernel_rfl) (by as_aux_lemma => kernel_rfl) (by as_aux_lemma => kernel_rfl) (fun _ _ _ h => h) (by rfl) hs8 ?_ ?_
        rotate_left
        · intro w' hw'; go_simp; with_reducible rfl
        go_simp
        refine H_take (i := 8) (v := ?_) rfl (by as_aux_lemma => kernel_rfl) (by as_aux_lemma => kernel_rfl) (by as_aux_lemma => kernel_rfl) (fun _ _ _ h => h) (by rfl) hs8 ?_ ?_
        rotate_left
        · intro w' hw'; go_simp; with_reducible rfl
        go_simp
        refine H_take (i := 9) (v := ?_) rfl (by as_aux_lemma => kernel_rfl) (by as_aux_lemma => kernel_rfl) (by as_aux_lemma => kernel_rfl) (fun _ _ _ h => h) (by rfl) hs8 ?_ ?_
        rotate_left
        · intro w' hw'; go_simp; with_reducible rfl
        go_simp
        refine H_take (i := 10) (v := ?_) rfl (by as_aux_lemma => kernel_rfl) (by as_aux_lemma => kernel_rfl) (by as_aux_lemma => kernel_rfl) (fun _ _ _ h => h) (by rfl) hs8 ?_ ?_
        rotate_left
        · intro w' hw'; go_simp; with_reducible rfl
        go_simp
        refine H_take (i := 11) (v := ?_) rfl (by as_aux_lemma => kernel_rfl) (by as_aux_lemma => kernel_rfl) (by as_aux_lemma => kernel_rfl) (fun _ _ _ h => h) (by rfl) hs8 ?_ ?_
        rotate_left
        · intro w' hw'; go_simp; with_reducible rfl
        go_simp
        refine H_take (i := 12) (v := ?_) rfl (by as_aux_lemma => kernel_rfl) (by as_aux_lemma => kernel_rfl) (by as_aux_lemma => kernel_rfl) (fun _ _ _ h => h) (by rfl) hs8 ?_ ?_
        rotate_left
        · intro w' hw'; go_simp; with_reducible rfl
        go_simp
        refine H_take (i := 13) (v := ?_) rfl (by as_aux_lemma => kernel_rfl) (by as_aux_lemma => kernel_rfl) (by as_aux_lemma => kernel_rfl) (fun _ _ _ h => h) (by rfl) hs8 ?_ ?_
        rotate_left
        · intro w' hw'; go_simp; with_reducible rfl
        go_simp
        refine H_take (i := 16) (v := ?_) rfl (by as_aux_lemma => kernel_rfl) (by as_aux_lemma => kernel_rfl) (by as_aux_lemma => kernel_rfl) (fun _ _ _ h => h) (by rfl) hs8 ?_ ?_
        rotate_left
        · intro w' hw'; go_simp; with_reducible rfl
        go_simp
        refine H_take (i := 17) (v := ?_) rfl (by as_aux_lemma => kernel_rfl) (by as_aux_lemma => kernel_rfl) (by as_aux_lemma => kernel_rfl) (fun _ _ _ h => h) (by rfl) hs8 ?_ ?_
        rotate_left
        · intro w' hw'; go_simp; with_reducible rfl
        go_simp
        refine H_one (i := 14) (by as_aux_lemma => kernel_rfl) rfl (by rfl) ?_
        go_simp
        refine (mBytes_any d _ _ _ w8 (HDV7.out w8 hs8) (HDL7.out w8 hs8) (fun k hk => Nat.lt_of_lt_of_le hk hs8.size) HSD.out.1 HSD.out.2).mono ?_
        rintro e w9 ⟨us, base2, rfl, hb9, -, hown9⟩
        have hs9 : Below W7.heap.size W7 w9 := hs8.trans (hb9.mono hs8.size)
        have hcv2 : (convert 22 9 us).run Try.prog w9 = .ok (.string (strOf b)) w9 := by
          have := str_at (RepB.of_own hown9)
          rw [HBK.out] at this
          exact this
        clear hb9 hown9
        refine ⟨hs9, ?_⟩
        go_simp
        refine H_one (i := 15) (by as_aux_lemma => kernel_rfl) rfl (by rfl) ?_
        go_simp
        refine H_take (i := 18) (v := ?_) rfl (by as_aux_lemma => kernel_rfl) (by as_aux_lemma => kernel_rfl) (by as_aux_lemma => kernel_rfl) (fun _ _ _ h => h) (by rfl) hs9 ?_ ?_
        rotate_left
        · intro w' hw'; go_simp; with_reducible rfl
        go_simp
        refine H_take (i := 19) (v := ?_) rfl (by as_aux_lemma => kernel_rfl) (by as_aux_lemma => kernel_rfl) (by as_aux_lemma => kernel_rfl) (fun _ _ _ h => h) (by rfl) hs9 ?_ ?_
        rotate_left
        · intro w' hw'; go_simp; with_reducible rfl
        go_simp
        refine H_take (i := 20) (v := ?_) rfl (by as_aux_lemma => kernel_rfl) (by as_aux_lemma => kernel_rfl) (by as_aux_lemma => kernel_rfl) (fun _ _ _ h => h) (by rfl) hs9 ?_ ?_
        rotate_left
        · intro w' hw'; go_simp; with_reducible rfl
        go_simp
        refine wpAnyH_done (by as_aux_lemma => kernel_rfl) ?_ _
        obtain ⟨w8, hw8⟩ : ∃ w8', w8' = w9 := ⟨_, rfl⟩
        rw [← hw8]
        have HB8 : Hid (Below W.heap.size W w8) := Lib.hid (by rw [hw8]; exact HB7.out.trans (hs9.mono HB7.out.size))
        clear hs9 hs8 hs0 r0 r1 r2 r3 hcb hcv2 hw8
        obtain ⟨c0, c1, -, -, cz⟩ := block2' (HX3.out w8 HB8.out)
        go_wp2_with fail
        refine (mBytes_any c _ _ _ w8 (HV.out w8 HB8.out) (HL.out w8 HB8.out) (fun k hk => Nat.lt_of_lt_of_le hk (Nat.le_trans HBW.out.size HB8.out.size)) (by have := HS.out; omega) (by have := HS.out; omega)).mono ?_
        rintro e w9 ⟨ur, base, rfl, hb9, hbs, hown9⟩
        have HB9 : Hid (Below W.heap.size W w9) := Lib.hid (HB8.out.trans (hb9.mono HB8.out.size))
        have HR9 : Hid (RepB w9 _ (confB c) ur) := Lib.hid (RepB.of_own hown9)
        obtain ⟨ra, rc, hur⟩ := owned_slice hown9
        obtain ⟨nr, hnr⟩ : ∃ nr, nr = (confB c).length := ⟨_, rfl⟩
        rw [← hnr] at hur
        subst hur
        have HNR := Lib.hid hnr
        clear hb9 hbs hown9 hnr c0 c1 cz
        go_wp2_with fail
        have hlc : (confB c).length ≤ 500000 := by
          rw [confB_eq]
          have q1 := num_le c.v.length
          have q2 := num_le c.l.length
          have q3 := numsB_len c.v
          have q4 := numsB_len c.l
          have := HS.out
          simp only [List.length_append]
          omega
        refine (mParse_any (confB c) _ _ hlc w9 HR9.out (fun k hk => hk.2)).mono ?_
        rw [parse_forth c HIN.out.1 HIN.out.2 HS.out.1 HS.out.2]
        rintro e wa ⟨hba, hra⟩
        have HBA : Hid (Below W.heap.size W wa) := Lib.hid (HB9.out.trans (hba.mono HB9.out.size))
        have HRA : Hid (RepB wa _ (confB c) (.slice ra nr rc)) := Lib.hid (HR9.out.same (fun _ h => h) fun k hk => hba.block k hk.2)
        have HZA : Hid (w9.heap.size ≤ wa.heap.size) := Lib.hid hba.size
        clear hba hlc
        by_cases hok : c.ok
        · rw [yes_t hok] at hra
          obtain ⟨pv, pl, rfl, hpv, hpl⟩ := hra
          have HPV : Hid (RepI wa (fun k => k < wa.heap.size) c.v pv) := Lib.hid (hpv.same (fun _ h => h.2) fun _ _ => rfl)
          have HPL : Hid (RepI wa (fun k => k < wa.heap.size) c.l pl) := Lib.hid (hpl.same (fun _ h => h.2) fun _ _ => rfl)
          obtain ⟨pa, pk, e5, -⟩ := hpv.slice
          obtain ⟨qa, qk, e6, -⟩ := hpl.slice
          rw [← HN.out] at e5
          rw [← HM.out] at e6
          subst e5 e6
          clear hpv hpl
          go_wp2_with fail
          obtain ⟨wb, hwb⟩ : ∃ wb, wb = wa.alloc (.cells #[.slice pa n pk, .slice qa m qk] 25) := ⟨_, rfl⟩
          obtain ⟨gx, hgx⟩ : ∃ gx, gx = wa.heap.size := ⟨_, rfl⟩
          have hxb : wb.heap[gx]? = some (.cells #[.slice pa n pk, .slice qa m qk] 25) := by rw [hwb]; exact heap_new _ _ _ hgx
          have HBB : Hid (Below W.heap.size W wb) := Lib.hid (by rw [hwb]; exact HBA.out.alloc HBA.out.size _)
          have HRB : Hid (RepB wb _ (confB c) (.slice ra nr rc)) := Lib.hid (HRA.out.same (fun _ h => h) fun k hk => by rw [hwb]; exact Below.heap_alloc _ _ _ (Nat.lt_of_lt_of_le hk.2 HZA.out))
          have HZB : Hid (w9.heap.size ≤ wb.heap.size) := Lib.hid (by rw [hwb]; simp; have := HZA.out; omega)
          have HKB : Hid (∀ k, k < wa.heap.size → wb.heap[k]? = wa.heap[k]?) := Lib.hid fun k hk => by rw [hwb]; exact Below.heap_alloc _ _ _ hk
          have HZAB : Hid (wa.heap.size ≤ wb.heap.size) := Lib.hid (by rw [hwb]; simp)
          rw [← hwb, ← hgx]
          clear hwb hgx
          have HXX : Hid (wb.heap[gx]? = some (.cells #[.slice pa n pk, .slice qa m qk] 25)) := Lib.hid hxb
          clear hxb
          refine wp_region_held (S := fun w' => Below wb.heap.size wb w') (by kernel_rfl) ?_
          have hs0 : Below wb.heap.size wb wb.drew := below_drew1 wb
          have r0 : ∀ w', Below wb.heap.size wb w' → w'.cell? ⟨g3, 0, none⟩ = some (.slice va n vk) := fun w' hw' => (block2' (HX3.out w' (HBB.out.trans (hw'.mono HBB.out.size)))).1
          have r1 : ∀ w', Below wb.heap.size wb w' → w'.cell? ⟨g3, 1, none⟩ = some (.slice la m lk) := fun w' hw' => (block2' (HX3.out w' (HBB.out.trans (hw'.mono HBB.out.size)))).2.1
          have hcv : ∀ w', Below wb.heap.size wb w' → (convert 22 9 (.slice ra nr rc)).run Try.prog w' = .ok (.string (strOf (confB c))) w' := fun w' hw' => str_at (HRB.out.same (fun _ h => h) fun k hk => hw'.block k (Nat.lt_of_lt_of_le hk.2 HZB.out))
          refine H_take (i := 0) (v := ?_) rfl (by as_aux_lemma => kernel_rfl) (by as_aux_lemma => kernel_rfl) (by as_aux_lemma => kernel_rfl) (fun _ _ _ h => h) (by rfl) hs0 ?_ ?_
          rotate_left
          · intro w' hw'; go_simp; with_reducible rfl
          go_simp
          refine H_take (i := 1) (v := ?_) rfl (by as_aux_lemma => kernel_rfl) (by as_aux_lemma => kernel_rfl) (by as_aux_lemma => kernel_rfl) (fun _ _ _ h => h) (by rfl) hs0 ?_ ?_
          rotate_left
          · intro w' hw'; go_simp; with_reducible rfl
          go_simp
          refine H_take (i := 2) (v := ?_) rfl (by as_aux_lemma => kernel_rfl) (by as_aux_lemma => kernel_rfl) (by as_aux_lemma => kernel_rfl) (fun _ _ _ h => h) (by rfl) hs0 ?_ ?_
          rotate_left
          · intro w' hw'; go_simp; with_reducible rfl
          go_simp
          refine H_one (i := 3) (by as_aux_lemma => kernel_rfl) rfl (by rfl) ?_
          go_simp
          refine (RefBytesC_any c _ _ _ wb.drew (HV.out _ (HBB.out.trans (hs0.mono HBB.out.size))) (HL.out _ (HBB.out.trans (hs0.mono HBB.out.size))) (fun k hk => Nat.lt_of_lt_of_le hk (Nat.le_trans HBW.out.size HBB.out.size)) (by have := HS.out; omega) (by have := HS.out; omega)).mono ?_
          rintro e wc ⟨us, base2, rfl, hbc, hbs2, hownc⟩
          have hs1 : Below wb.heap.size wb wc := hs0.trans (hbc.mono hs0.size)
          have hcv2 : (convert 22 9 us).run Try.prog wc = .ok (.string (strOf (confB c))) wc := str_at (RepB.of_own hownc)
          clear hbc hbs2 hownc
          refine ⟨hs1, ?_⟩
          go_simp
          refine H_one (i := 4) (by as_aux_lemma => kernel_rfl) rfl (by rfl) ?_
          go_simp
          refine H_take (i := 5) (v := ?_) rfl (by as_aux_lemma => kernel_rfl) (by as_aux_lemma => kernel_rfl) (by as_aux_lemma => kernel_rfl) (fun _ _ _ h => h) (by rfl) hs1 ?_ ?_
          rotate_left
          · intro w' hw'; go_simp; with_reducible rfl
          go_simp
          refine wpAnyH_done (by as_aux_lemma => kernel_rfl) ?_ _
          have HBC : Hid (Below W.heap.size W wc) := Lib.hid (HBB.out.trans (hs1.mono HBB.out.size))
          have HXC : Hid (wc.heap[gx]? = some (.cells #[.slice pa n pk, .slice qa m qk] 25)) := Lib.hid (old_below HXX.out hs1)
          have HBWC : Hid (Below wb.heap.size wb wc) := Lib.hid hs1
          clear hs0 hs1 hcv hcv2 r0 r1
          obtain ⟨c0, c1, -, -, cz⟩ := block2' (HX3.out wc HBC.out)
          go_wp2_with fail
          refine (RefRightC_any c _ _ _ wc (HV.out wc HBC.out) (HL.out wc HBC.out) (fun k hk => Nat.lt_of_lt_of_le hk (Nat.le_trans HBW.out.size HBC.out.size)) (by have := HS.out; omega)).mono ?_
          rw [yes_t hok]
          rintro e wd ⟨rfl, hbd⟩
          have HBD : Hid (Below W.heap.size W wd) := Lib.hid (HBC.out.trans (hbd.mono HBC.out.size))
          have HXD : Hid (wd.heap[gx]? = some (.cells #[.slice pa n pk, .slice qa m qk] 25)) := Lib.hid (old_below HXC.out hbd)
          have HBCD : Hid (Below wc.heap.size wc wd) := Lib.hid hbd
          clear hbd c0 c1 cz
          obtain ⟨c0, c1, -, -, cz⟩ := block2' (HX3.out wd HBD.out)
          obtain ⟨d0, d1, -, -, dz⟩ := block2' HXD.out
          go_wp2_with fail
          refine (RefSame_any c c _ _ _ _ _ _ wd (HPV.out.same (fun _ h => h) fun k hk => ((HBCD.out.block k (Nat.lt_of_lt_of_le hk (Nat.le_trans HZAB.out HBWC.out.size))).trans ((HBWC.out.block k (Nat.lt_of_lt_of_le hk HZAB.out)).trans (HKB.out k hk)))) (HPL.out.same (fun _ h => h) fun k hk => ((HBCD.out.block k (Nat.lt_of_lt_of_le hk (Nat.le_trans HZAB.out HBWC.out.size))).trans ((HBWC.out.block k (Nat.lt_of_lt_of_le hk HZAB.out)).trans (HKB.out k hk)))) (HV.out wd HBD.out) (HL.out wd HBD.out) (fun k hk => Nat.lt_of_lt_of_le hk (Nat.le_trans HZAB.out (Nat.le_trans HBWC.out.size HBCD.out.size))) (fun k hk => Nat.lt_of_lt_of_le hk (Nat.le_trans HBW.out.size HBD.out.size))).mono ?_
          rw [yes_t rfl]
          rintro e we ⟨rfl, hbe⟩
          have HBE : Hid (Below W.heap.size W we) := Lib.hid (HBD.out.trans (hbe.mono HBD.out.size))
          clear hbe
          go_wp2_with fail
          go_ret
          exact ⟨rfl, HBW.out.trans (HBE.out.mono HBW.out.size)⟩
        · rw [yes_f hok] at hra
          replace hra : e = .returned (.tuple #[.agg #[.slice none 0 0, .slice none 0 0], .int .i64 80]) := hra
          subst hra
          go_wp2_with fail
          obtain ⟨wb, hwb⟩ : ∃ wb, wb = wa.alloc (.cells #[.slice none 0 0, .slice none 0 0] 25) := ⟨_, rfl⟩
          obtain ⟨gx, hgx⟩ : ∃ gx, gx = wa.heap.size := ⟨_, rfl⟩
          have hxb : wb.heap[gx]? = some (.cells #[.slice none 0 0, .slice none 0 0] 25) := by rw [hwb]; exact heap_new _ _ _ hgx
          have HBB : Hid (Below W.heap.size W wb) := Lib.hid (by rw [hwb]; exact HBA.out.alloc HBA.out.size _)
          have HRB : Hid (RepB wb _ (confB c) (.slice ra nr rc)) := Lib.hid (HRA.out.same (fun _ h => h) fun k hk => by rw [hwb]; exact Below.heap_alloc _ _ _ (Nat.lt_of_lt_of_le hk.2 HZA.out))
          have HZB : Hid (w9.heap.size ≤ wb.heap.size) := Lib.hid (by rw [hwb]; simp; have := HZA.out; omega)
          rw [← hwb, ← hgx]
          clear hwb hgx
          have HXX : Hid (wb.heap[gx]? = some (.cells #[.slice none 0 0, .slice none 0 0] 25)) := Lib.hid hxb
          clear hxb
          refine wp_region_held (S := fun w' => Below wb.heap.size wb w') (by kernel_rfl) ?_
          have hs0 : Below wb.heap.size wb wb.drew := below_drew1 wb
          have r0 : ∀ w', Below wb.heap.size wb w' → w'.cell? ⟨g3, 0, none⟩ = some (.slice va n vk) := fun w' hw' => (block2' (HX3.out w' (HBB.out.trans (hw'.mono HBB.out.size)))).1
          have r1 : ∀ w', Below wb.heap.size wb w' → w'.cell? ⟨g3, 1, none⟩ = some (.slice la m lk) := fun w' hw' => (block2' (HX3.out w' (HBB.out.trans (hw'.mono HBB.out.size)))).2.1
          have hcv : ∀ w', Below wb.heap.size wb w' → (convert 22 9 (.slice ra nr rc)).run Try.prog w' = .ok (.string (strOf (confB c))) w' := fun w' hw' => str_at (HRB.out.same (fun _ h => h) fun k hk => hw'.block k (Nat.lt_of_lt_of_le hk.2 HZB.out))
          refine H_take (i := 0) (v := ?_) rfl (by as_aux_lemma => kernel_rfl) (by as_aux_lemma => kernel_rfl) (by as_aux_lemma => kernel_rfl) (fun _ _ _ h => h) (by rfl) hs0 ?_ ?_
          rotate_left
          · intro w' hw'; go_simp; with_reducible rfl
          go_simp
          refine H_take (i := 1) (v := ?_) rfl (by as_aux_lemma => kernel_rfl) (by as_aux_lemma => kernel_rfl) (by as_aux_lemma => kernel_rfl) (fun _ _ _ h => h) (by rfl) hs0 ?_ ?_
          rotate_left
          · intro w' hw'; go_simp; with_reducible rfl
          go_simp
          refine H_take (i := 2) (v := ?_) rfl (by as_aux_lemma => kernel_rfl) (by as_aux_lemma => kernel_rfl) (by as_aux_lemma => kernel_rfl) (fun _ _ _ h => h) (by rfl) hs0 ?_ ?_
          rotate_left
          · intro w' hw'; go_simp; with_reducible rfl
          go_simp
          refine H_one (i := 3) (by as_aux_lemma => kernel_rfl) rfl (by rfl) ?_
          go_simp
          refine (RefBytesC_any c _ _ _ wb.drew (HV.out _ (HBB.out.trans (hs0.mono HBB.out.size))) (HL.out _ (HBB.out.trans (hs0.mono HBB.out.size))) (fun k hk => Nat.lt_of_lt_of_le hk (Nat.le_trans HBW.out.size HBB.out.size)) (by have := HS.out; omega) (by have := HS.out; omega)).mono ?_
          rintro e wc ⟨us, base2, rfl, hbc, hbs2, hownc⟩
          have hs1 : Below wb.heap.size wb wc := hs0.trans (hbc.mono hs0.size)
          have hcv2 : (convert 22 9 us).run Try.prog wc = .ok (.string (strOf (confB c))) wc := str_at (RepB.of_own hownc)
          clear hbc hbs2 hownc
          refine ⟨hs1, ?_⟩
          go_simp
          refine H_one (i := 4) (by as_aux_lemma => kernel_rfl) rfl (by rfl) ?_
          go_simp
          refine H_take (i := 5) (v := ?_) rfl (by as_aux_lemma => kernel_rfl) (by as_aux_lemma => kernel_rfl) (by as_aux_lemma => kernel_rfl) (fun _ _ _ h => h) (by rfl) hs1 ?_ ?_
          rotate_left
          · intro w' hw'; go_simp; with_reducible rfl
          go_simp
          refine wpAnyH_done (by as_aux_lemma => kernel_rfl) ?_ _
          have HBC : Hid (Below W.heap.size W wc) := Lib.hid (HBB.out.trans (hs1.mono HBB.out.size))
          have HXC : Hid (wc.heap[gx]? = some (.cells #[.slice none 0 0, .slice none 0 0] 25)) := Lib.hid (old_below HXX.out hs1)
          have HBWC : Hid (Below wb.heap.size wb wc) := Lib.hid hs1
          clear hs0 hs1 hcv hcv2 r0 r1
          obtain ⟨c0, c1, -, -, cz⟩ := block2' (HX3.out wc HBC.out)
          go_wp2_with fail
          refine (RefRightC_any c _ _ _ wc (HV.out wc HBC.out) (HL.out wc HBC.out) (fun k hk => Nat.lt_of_lt_of_le hk (Nat.le_trans HBW.out.size HBC.out.size)) (by have := HS.out; omega)).mono ?_
          rw [yes_f hok]
          rintro e wd ⟨rfl, hbd⟩
          have HBD : Hid (Below W.heap.size W wd) := Lib.hid (HBC.out.trans (hbd.mono HBC.out.size))
          have HXD : Hid (wd.heap[gx]? = some (.cells #[.slice none 0 0, .slice none 0 0] 25)) := Lib.hid (old_below HXC.out hbd)
          have HBCD : Hid (Below wc.heap.size wc wd) := Lib.hid hbd
          clear hbd c0 c1 cz
          obtain ⟨c0, c1, -, -, cz⟩ := block2' (HX3.out wd HBD.out)
          obtain ⟨d0, d1, -, -, dz⟩ := block2' HXD.out
          go_wp2_with fail
          have hnil : RepI wd (fun k => k < wd.heap.size) [] (.slice none 0 0) := .inl ⟨rfl, Bare.nil⟩
          refine (RefSame_any ⟨[], []⟩ ⟨[], []⟩ _ _ _ _ _ _ wd hnil hnil hnil hnil (fun _ h => h) (fun _ h => h)).mono ?_
          rw [yes_t rfl]
          rintro e we ⟨rfl, hbe⟩
          have HBE : Hid (Below W.heap.size W we) := Lib.hid (HBD.out.trans (hbe.mono HBD.out.size))
          clear hbe hnil
          go_wp2_with fail
          go_ret
          exact ⟨rfl, HBW.out.trans (HBE.out.mono HBW.out.size)⟩
    · rw [decide_eq_false hs]
      clear hs
      go_wp2_with fail
      refine (awake8_any _).mono ?_
      rintro e w3 ⟨rfl, hb3⟩
      have HB3 : Hid (Below W.heap.size W w3) := Lib.hid (HB2.out.trans (hb3.mono HB2.out.size))
      clear hb3
      go_wp2_with fail
      go_ret
      exact ⟨rfl, HBW.out.trans (HB3.out.mono HBW.out.size)⟩
end Go.Proofs.Ytdngfbljcmbniaa.M
