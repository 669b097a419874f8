/- The program's disk: Rename, Remove, Cut as they are called. -/
import Derived.Test.YtgiipkmkmomofaaProjO
namespace Go.Proofs.Ytgiipkmkmomofaa.M
open Go.RowKit Go.Maps
open D (Fl Dk)

set_option maxRecDepth 20000 in
set_option maxHeartbeats 1600000 in
theorem PRename_any (d : Dk) (X : Nat → Prop) (gd : Nat) (a b : ByteArray) (w : World) (hd : PDskIn w X gd d) (hg : Good d) (hsa : a.size ≤ 9223372036854775807) (hsb : b.size ≤ 9223372036854775807) :
    Calls Try.prog 23 #[.pointer (some ⟨gd, 0, none⟩), .string a, .string b] w (PPost w X gd (D.rename d a b)) := by
  have HD := Lib.hid hd
  have HG := Lib.hid hg
  clear hd hg
  obtain ⟨W, hW⟩ : ∃ W, W = ((w.alloc (.cells #[.pointer (some ⟨gd, 0, none⟩)] 27)).alloc (.cells #[.string a] 9)).alloc (.cells #[.string b] 9) := ⟨_, rfl⟩
  have HO : Hid (Only X w W) := Lib.hid (by rw [hW]; exact (((Only.refl X w).alloc _).alloc _).alloc _)
  have HB : Hid (Below w.heap.size w W) := Lib.hid (by rw [hW]; exact (((Below.refl _ w).alloc (by omega) _).alloc (by simp) _).alloc (by simp; omega) _)
  have HSZ : Hid (W.heap.size = w.heap.size + 3) := Lib.hid (by rw [hW]; simp)
  have HC : Hid (W.cell? ⟨w.heap.size, 0, none⟩ = some (.pointer (some ⟨gd, 0, none⟩)) ∧ W.cell? ⟨w.heap.size + 1, 0, none⟩ = some (.string a) ∧ W.cell? ⟨w.heap.size + 1 + 1, 0, none⟩ = some (.string b)) := Lib.hid (by
    rw [hW]
    refine ⟨cell_past _ (cell_past _ (cell_new1 _ _ _ rfl) (by simp)) (by simp; omega), cell_past _ (cell_new1 _ _ _ (by simp)) (by simp), cell_new1 _ _ _ (by simp)⟩)
  have hwk := Work_any 48 #[.pointer (some ⟨w.heap.size, 0, none⟩), .pointer (some ⟨w.heap.size + 1, 0, none⟩), .pointer (some ⟨w.heap.size + 1 + 1, 0, none⟩)] en48 d X gd (renameB d.tick a b) W
    (HD.out.1.same (fun _ h => h) fun k hk => HB.out.block k (HD.out.2 k hk)) HG.out.1.2.1 (fun w1 ho hz hd1 hst => by
      have hnx : ∀ k, w.heap.size ≤ k → ¬ X k := fun k hk hx => by have := HD.out.2 k hx; omega
      have hsz := HSZ.out
      exact RenameC_any d.tick X gd _ _ _ a b w1 ⟨hd1, fun k hk => by have := HD.out.2 k hk; omega⟩ HG.out.tick hsa hsb
        ((cell_only ho (by omega) (hnx _ (by omega)) 0).trans HC.out.1) ((cell_only ho (by omega) (hnx _ (by omega)) 0).trans HC.out.2.1) ((cell_only ho (by omega) (hnx _ (by omega)) 0).trans HC.out.2.2)
        ⟨⟨by omega, hnx _ (by omega)⟩, ⟨by omega, hnx _ (by omega)⟩, by omega, hnx _ (by omega)⟩)
  rw [← rename_eq] at hwk
  have HWK := Lib.hid hwk
  have HWE := Lib.hid hW
  clear hwk hW
  go_enter Try.func23, Try.ntmps23
  go_wp2_with fail
  rw [← HWE.out]
  refine HWK.out.mono ?_
  intro e w' hp
  have HP := Lib.hid (hp.wrap HO.out)
  obtain ⟨rfl, -, -⟩ := hp
  go_wp2_with fail
  go_ret
  exact HP.out

set_option maxRecDepth 20000 in
set_option maxHeartbeats 1600000 in
theorem PCut_any (d : Dk) (X : Nat → Prop) (gd : Nat) (s : ByteArray) (n : Int) (w : World) (hd : PDskIn w X gd d) (hg : Good d) (hs : s.size ≤ 9223372036854775807) (hn1 : -9223372036854775808 ≤ n) (hn2 : n ≤ 9223372036854775807) :
    Calls Try.prog 26 #[.pointer (some ⟨gd, 0, none⟩), .string s, .int .i64 n] w (PPost w X gd (D.cut d s n)) := by
  have HD := Lib.hid hd
  have HG := Lib.hid hg
  clear hd hg
  obtain ⟨W, hW⟩ : ∃ W, W = ((w.alloc (.cells #[.pointer (some ⟨gd, 0, none⟩)] 27)).alloc (.cells #[.string s] 9)).alloc (.cells #[.int .i64 n] 3) := ⟨_, rfl⟩
  have HO : Hid (Only X w W) := Lib.hid (by rw [hW]; exact (((Only.refl X w).alloc _).alloc _).alloc _)
  have HB : Hid (Below w.heap.size w W) := Lib.hid (by rw [hW]; exact (((Below.refl _ w).alloc (by omega) _).alloc (by simp) _).alloc (by simp; omega) _)
  have HSZ : Hid (W.heap.size = w.heap.size + 3) := Lib.hid (by rw [hW]; simp)
  have HC : Hid (W.cell? ⟨w.heap.size, 0, none⟩ = some (.pointer (some ⟨gd, 0, none⟩)) ∧ W.cell? ⟨w.heap.size + 1, 0, none⟩ = some (.string s) ∧ W.cell? ⟨w.heap.size + 1 + 1, 0, none⟩ = some (.int .i64 n)) := Lib.hid (by
    rw [hW]
    refine ⟨cell_past _ (cell_past _ (cell_new1 _ _ _ rfl) (by simp)) (by simp; omega), cell_past _ (cell_new1 _ _ _ (by simp)) (by simp), cell_new1 _ _ _ (by simp)⟩)
  have hwk := Work_any 51 #[.pointer (some ⟨w.heap.size, 0, none⟩), .pointer (some ⟨w.heap.size + 1, 0, none⟩), .pointer (some ⟨w.heap.size + 1 + 1, 0, none⟩)] en51 d X gd (cutB d.tick s n) W
    (HD.out.1.same (fun _ h => h) fun k hk => HB.out.block k (HD.out.2 k hk)) HG.out.1.2.1 (fun w1 ho hz hd1 hst => by
      have hnx : ∀ k, w.heap.size ≤ k → ¬ X k := fun k hk hx => by have := HD.out.2 k hx; omega
      have hsz := HSZ.out
      exact CutC_any d.tick X gd _ _ _ s n w1 ⟨hd1, fun k hk => by have := HD.out.2 k hk; omega⟩ HG.out.tick hs hn1 hn2
        ((cell_only ho (by omega) (hnx _ (by omega)) 0).trans HC.out.1) ((cell_only ho (by omega) (hnx _ (by omega)) 0).trans HC.out.2.1) ((cell_only ho (by omega) (hnx _ (by omega)) 0).trans HC.out.2.2)
        ⟨⟨by omega, hnx _ (by omega)⟩, ⟨by omega, hnx _ (by omega)⟩, by omega, hnx _ (by omega)⟩)
  rw [← cut_eq] at hwk
  have HWK := Lib.hid hwk
  have HWE := Lib.hid hW
  clear hwk hW
  go_enter Try.func26, Try.ntmps26
  go_wp2_with fail
  rw [← HWE.out]
  refine HWK.out.mono ?_
  intro e w' hp
  have HP := Lib.hid (hp.wrap HO.out)
  obtain ⟨rfl, -, -⟩ := hp
  go_wp2_with fail
  go_ret
  exact HP.out

set_option maxRecDepth 20000 in
set_option maxHeartbeats 1600000 in
theorem PRemove_any (d : Dk) (X : Nat → Prop) (gd : Nat) (names : List ByteArray) (F : Nat → Prop) (vn : Value) (w : World) (hd : PDskIn w X gd d) (hg : Good d) (hs : ∀ s ∈ names, s.size ≤ 9223372036854775807)
    (hv : RepSl w F names vn) (hF : ∀ k, F k → k < w.heap.size ∧ ¬ X k) :
    Calls Try.prog 22 #[.pointer (some ⟨gd, 0, none⟩), vn] w (PPost w X gd (D.remove d names)) := by
  obtain ⟨na, nc, rfl, hnl⟩ := hv.slice
  have HV := Lib.hid hv
  have HF := Lib.hid hF
  have HD := Lib.hid hd
  have HG := Lib.hid hg
  have HS := Lib.hid hs
  clear hv hF hd hg hs
  obtain ⟨W, hW⟩ : ∃ W, W = (w.alloc (.cells #[.pointer (some ⟨gd, 0, none⟩)] 27)).alloc (.cells #[.slice na names.length nc] 35) := ⟨_, rfl⟩
  have HO : Hid (Only X w W) := Lib.hid (by rw [hW]; exact ((Only.refl X w).alloc _).alloc _)
  have HB : Hid (Below w.heap.size w W) := Lib.hid (by rw [hW]; exact ((Below.refl _ w).alloc (by omega) _).alloc (by simp) _)
  have HSZ : Hid (W.heap.size = w.heap.size + 2) := Lib.hid (by rw [hW]; simp)
  have HC : Hid (W.cell? ⟨w.heap.size, 0, none⟩ = some (.pointer (some ⟨gd, 0, none⟩)) ∧ W.cell? ⟨w.heap.size + 1, 0, none⟩ = some (.slice na names.length nc)) := Lib.hid (by
    rw [hW]
    exact ⟨cell_past _ (cell_new1 _ _ _ rfl) (by simp), cell_new1 _ _ _ (by simp)⟩)
  have hwk := Work_any 44 #[.pointer (some ⟨w.heap.size, 0, none⟩), .pointer (some ⟨w.heap.size + 1, 0, none⟩)] en44 d X gd (removeB d.tick names) W
    (HD.out.1.same (fun _ h => h) fun k hk => HB.out.block k (HD.out.2 k hk)) HG.out.1.2.1 (fun w1 ho hz hd1 hst => by
      have hnx : ∀ k, w.heap.size ≤ k → ¬ X k := fun k hk hx => by have := HD.out.2 k hx; omega
      have hsz := HSZ.out
      exact RemoveC_any d.tick X gd _ _ names F _ w1 ⟨hd1, fun k hk => by have := HD.out.2 k hk; omega⟩ HG.out.tick HS.out
        (HV.out.same (fun _ h => h) fun k hk => (ho.block k (by have := (HF.out k hk).1; omega) (HF.out k hk).2).trans (HB.out.block k (HF.out k hk).1)) (fun k hk => ⟨by have := (HF.out k hk).1; omega, (HF.out k hk).2⟩)
        ((cell_only ho (by omega) (hnx _ (by omega)) 0).trans HC.out.1) ((cell_only ho (by omega) (hnx _ (by omega)) 0).trans HC.out.2)
        ⟨⟨by omega, hnx _ (by omega)⟩, by omega, hnx _ (by omega)⟩)
  rw [← remove_eq] at hwk
  have HWK := Lib.hid hwk
  have HWE := Lib.hid hW
  clear hwk hW
  go_enter Try.func22, Try.ntmps22
  go_wp2_with fail
  rw [← HWE.out]
  refine HWK.out.mono ?_
  intro e w' hp
  have HP := Lib.hid (hp.wrap HO.out)
  obtain ⟨rfl, -, -⟩ := hp
  go_wp2_with fail
  go_ret
  exact HP.out
end Go.Proofs.Ytgiipkmkmomofaa.M
