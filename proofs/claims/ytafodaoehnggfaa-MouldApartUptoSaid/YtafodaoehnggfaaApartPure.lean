/- Forms are read back, and none is another one's beginning: plain lists. -/
import Derived.Test.YtafodaoehnggfaaMouldPure
import Derived.Test.YtafodaoehnggfaaRefFew
namespace Go.Proofs.Ytafodaoehnggfaa.M
open Go.RowKit

mutual
/-- A value, but for the fields that its shape does not name. -/
def norm : Sh → V → V
  | .num, v => .mk v.n [] []
  | .blob, v => .mk 0 v.b []
  | .list s, v => .mk 0 [] (v.l.map (norm s))
  | .row l, v => .mk 0 [] (norms l v.l)
def norms : List Sh → List V → List V
  | s :: l, v :: vs => norm s v :: norms l vs
  | _, _ => []
end

mutual
/-- Numbers of 64 bits, bytes and lists that are not too long. -/
def Meek : V → Prop
  | .mk n b l => n < 18446744073709551616 ∧ b.length < 18446744073709551616 ∧ l.length ≤ 1048576 ∧ Meeks l
def Meeks : List V → Prop
  | [] => True
  | v :: l => Meek v ∧ Meeks l
end

theorem Meeks.all : ∀ {l : List V}, Meeks l → ∀ v ∈ l, Meek v
  | [], _, v, h => by simp at h
  | a :: l, h, v, hv => by
    unfold Meeks at h
    rcases List.mem_cons.1 hv with e | e
    · rw [e]; exact h.1
    · exact Meeks.all h.2 v e

theorem num_pos (n : Nat) : 1 ≤ (num n).length := by simp [num]

mutual
theorem solid_pos : ∀ (s : Sh) (v : V), solid s = true → isV s v = true → 1 ≤ (putV s v).length
  | .num, v, _, _ => by rw [putV]; exact num_pos _
  | .blob, v, _, _ => by rw [putV, List.length_append]; have := num_pos v.b.length; omega
  | .list s, v, _, _ => by rw [putV, List.length_append]; have := num_pos v.l.length; omega
  | .row l, v, h, h2 => by
    rw [solid] at h
    rw [isV] at h2
    rw [putV]
    exact solids_pos l v.l h h2
theorem solids_pos : ∀ (l : List Sh) (vs : List V), solids l = true → isVs l vs = true → 1 ≤ (putVs l vs).length
  | [], vs, h, _ => by simp [solids] at h
  | s :: l, [], _, h2 => by simp [isVs] at h2
  | s :: l, v :: vs, h, h2 => by
    simp only [isVs, Bool.and_eq_true] at h2
    simp only [solids, Bool.or_eq_true] at h
    rw [putVs, List.length_append]
    rcases h with h | h
    · have := solid_pos s v h h2.1; omega
    · have := solids_pos l vs h h2.2; omega
end

theorem many_back {s : Sh} (ht : ∀ v r, isV s v = true → Meek v → takeV s (putV s v ++ r) = .ok (norm s v, r)) :
    ∀ (l : List V) (r : List UInt8), l.all (isV s) = true → Meeks l → takeMany (takeV s) l.length ((l.map (putV s)).flatten ++ r) = .ok (l.map (norm s), r)
  | [], r, _, _ => rfl
  | v :: l, r, h, hf => by
    simp only [List.all_cons, Bool.and_eq_true] at h
    unfold Meeks at hf
    rw [List.length_cons, takeMany, List.map_cons, List.flatten_cons, List.append_assoc, ht v _ h.1 hf.1]
    simp only [many_back ht l r h.2 hf.2, List.map_cons]

theorem many_long {s : Sh} (hs : solid s = true) : ∀ (l : List V), l.all (isV s) = true → l.length ≤ ((l.map (putV s)).flatten).length
  | [], _ => by simp
  | v :: l, h => by
    simp only [List.all_cons, Bool.and_eq_true] at h
    have h1 := solid_pos s v hs h.1
    have h2 := many_long hs l h.2
    rw [List.map_cons, List.flatten_cons, List.length_append, List.length_cons]
    omega

mutual
/-- What was laid is read back. -/
theorem take_put : ∀ (s : Sh) (v : V) (r : List UInt8), isV s v = true → Meek v → takeV s (putV s v ++ r) = .ok (norm s v, r)
  | .num, .mk n b l, r, _, hf => by
    unfold Meek at hf
    rw [putV, takeV]
    simp only [V.n, take_num n r hf.1, norm]
  | .blob, .mk n b l, r, _, hf => by
    unfold Meek at hf
    rw [putV, takeV]
    simp only [V.b, List.append_assoc, take_num b.length (b ++ r) hf.2.1, norm, List.take_left, List.drop_left]
    rw [if_neg (by rw [List.length_append]; omega)]
  | .list s, .mk n b l, r, h, hf => by
    unfold Meek at hf
    rw [isV] at h
    simp only [V.l] at h
    rw [putV, takeV]
    simp only [V.l, List.append_assoc, take_num l.length _ (by omega : l.length < 18446744073709551616), norm]
    rw [if_neg, if_neg (by omega)]
    · rw [many_back (fun v r => take_put s v r) l r h hf.2.2.2]
    · rintro ⟨h1, h2⟩
      have := many_long h1 l h
      rw [List.length_append] at h2
      omega
  | .row l, .mk n b vs, r, h, hf => by
    unfold Meek at hf
    rw [isV] at h
    simp only [V.l] at h
    rw [putV, takeV]
    simp only [V.l, take_puts l vs r h hf.2.2.2, norm]
theorem take_puts : ∀ (l : List Sh) (vs : List V) (r : List UInt8), isVs l vs = true → Meeks vs → takeVs l (putVs l vs ++ r) = .ok (norms l vs, r)
  | [], [], r, _, _ => by simp [putVs, takeVs, norms]
  | [], _ :: _, r, h, _ => by simp [isVs] at h
  | _ :: _, [], r, h, _ => by simp [isVs] at h
  | s :: l, v :: vs, r, h, hf => by
    simp only [isVs, Bool.and_eq_true] at h
    unfold Meeks at hf
    rw [putVs, takeVs, List.append_assoc, take_put s v _ h.1 hf.1]
    simp only [take_puts l vs r h.2 hf.2, norms]
end

/-- No form is another one's beginning. -/
theorem put_apart {s : Sh} {a b : V} (ha : isV s a = true) (hb : isV s b = true) (fa : Meek a) (fb : Meek b) {t : List UInt8} (h : putV s b = putV s a ++ t) : t = [] := by
  have h1 := take_put s a t ha fa
  have h2 := take_put s b [] hb fb
  rw [List.append_nil, h, h1] at h2
  simp at h2
  exact h2.2

theorem vpartss_len : ∀ (l : List V), l.length ≤ vpartss l
  | [] => by simp
  | .mk n b l' :: l => by
    have := vpartss_len l
    simp only [List.length_cons, vpartss, vparts]
    omega

mutual
theorem RepV.meek {w : World} {F : Nat → Prop} : ∀ {d : V} {v : Value}, RepV w F d v → vparts d ≤ 1048576 → vsize d ≤ 1099511627776 → Meek d
  | .mk n b l, v, h, hp, hs => by
    obtain ⟨vb, vl, rfl, hn, hb, hl⟩ := RepV_mk.1 h
    simp only [vparts] at hp
    simp only [vsize] at hs
    unfold Meek
    have h3 := vpartss_len l
    refine ⟨hn, by omega, by omega, ?_⟩
    rcases hl with ⟨rfl, _⟩ | ⟨b', off, c, _, _, _, _, hl⟩
    · unfold Meeks; trivial
    · exact RepVs.meeks hl (by omega) (by omega)
theorem RepVs.meeks {w : World} {F : Nat → Prop} : ∀ {l : List V} {b off : Nat}, RepVs w F l b off → vpartss l ≤ 1048576 → vsizes l ≤ 1099511627776 → Meeks l
  | [], b, off, _, _, _ => by unfold Meeks; trivial
  | d :: l, b, off, h, hp, hs => by
    unfold RepVs at h
    obtain ⟨⟨u, _, hu⟩, hl⟩ := h
    simp only [vpartss] at hp
    simp only [vsizes] at hs
    unfold Meeks
    exact ⟨hu.meek (by omega) (by omega), RepVs.meeks hl (by omega) (by omega)⟩
end
end Go.Proofs.Ytafodaoehnggfaa.M
