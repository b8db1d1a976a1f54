/-
  code: where an instruction may go on; an operation's name; whether numbers are the same: contracts.
-/
import Derived.Test.YtibmkihehaedjaaDoorGWrites
import Derived.Deep.QuietTactic
import Derived.BigQuiet
namespace Go.Proofs.YtibmkihehaedjaaDoor
open Go.RowKit

theorem ints_lit {w : World} {T : TypeId} {v : Obj} {n : Nat} {xs : List Int} {vs : Array Value} (hn : xs.length = n) (hv : vs.toList = I64 xs) (hs : n ≤ 9223372036854775807) : Ints w xs (.returned (.slice (some ⟨w.heap.size + 1, 0, none⟩) n n)) (World.alloc (World.alloc w v) (.cells vs T)) := by
  have h := RdI.lit (w := World.alloc w v) (E := T) hn hv hs
  rw [show (World.alloc w v).heap.size = w.heap.size + 1 by simp] at h
  exact ⟨_, _, _, rfl, h, ext_trans (ext_alloc _ _) (ext_alloc _ _)⟩
theorem ints_nil {w : World} {v : Obj} : Ints w [] (.returned (.slice none 0 0)) (World.alloc w v) := ⟨_, _, _, rfl, RdI.nil _, ext_alloc _ _⟩

set_option maxRecDepth 100000 in
set_option maxHeartbeats 1000000 in
theorem next_c (w : World) (o a b c i : Int) (i1 : -9223372036854775808 ≤ i) (i2 : i < 9223372036854775807) : Calls Tryd.prog 20 #[.agg #[.int .i64 o, .int .i64 a, .int .i64 b, .int .i64 c], .int .i64 i] w (Ints w (nextV o a i)) := by
  by_cases hk : 0 ≤ o ∧ o < 22
  · obtain ⟨h0, h1⟩ := hk
    by_cases k0 : o = 0
    · subst k0
      go_enter Tryd.func20, Tryd.ntmps20
      go_wp2_with fail
      refine (known_t _ _ h0 h1).mono ?_
      rintro e w' ⟨rfl, rfl⟩
      go_wp2_with fail
      go_ret
      exact ints_nil
    · have g0 : (o == 0) = false := by rw [beq_eq_false_iff_ne]; exact k0
      have k1 : ¬ o < 1 := by omega
      have k21 : ¬ 21 < o := by omega
      by_cases k19 : o = 19
      · subst k19
        have HV : Hid (nextV 19 a i = [a]) := rfl
        rw [HV.out]
        go_enter Tryd.func20, Tryd.ntmps20
        go_wp2_with fail
        refine (known_t _ _ h0 h1).mono ?_
        rintro e w' ⟨rfl, rfl⟩
        go_wp2_with fail
        go_ret
        exact ints_lit rfl rfl (by omega)
      · have g19 : (o == 19) = false := by rw [beq_eq_false_iff_ne]; exact k19
        by_cases k20 : o = 20 ∨ o = 21
        · by_cases ka : a = i + 1
          · have ga : (a != i + 1) = false := by rw [bne_eq_false_iff_eq]; exact ka
            have HV : Hid (nextV o a i = [i + 1]) := by
              show _ = _
              unfold nextV
              rw [if_neg (by omega), if_neg k19, if_neg (fun h => h.2 ka)]
            rw [HV.out]
            clear HV ka k0 k19
            rcases k20 with rfl | rfl
            · go_enter Tryd.func20, Tryd.ntmps20
              go_wp2_with fail
              refine (known_t _ _ h0 h1).mono ?_
              rintro e w' ⟨rfl, rfl⟩
              go_wp2_with fail
              go_ret
              exact ints_lit rfl rfl (by omega)
            · go_enter Tryd.func20, Tryd.ntmps20
              go_wp2_with fail
              refine (known_t _ _ h0 h1).mono ?_
              rintro e w' ⟨rfl, rfl⟩
              go_wp2_with fail
              go_ret
              exact ints_lit rfl rfl (by omega)
          · have ga : (a != i + 1) = true := by rw [bne_iff_ne]; exact ka
            have HV : Hid (nextV o a i = [i + 1, a]) := by
              show _ = _
              unfold nextV
              rw [if_neg (by omega), if_neg k19, if_pos ⟨by omega, ka⟩]
            rw [HV.out]
            clear HV ka k0 k19
            rcases k20 with rfl | rfl
            · go_enter Tryd.func20, Tryd.ntmps20
              go_wp2_with fail
              refine (known_t _ _ h0 h1).mono ?_
              rintro e w' ⟨rfl, rfl⟩
              go_wp2_with fail
              go_ret
              exact ints_lit rfl rfl (by omega)
            · go_enter Tryd.func20, Tryd.ntmps20
              go_wp2_with fail
              refine (known_t _ _ h0 h1).mono ?_
              rintro e w' ⟨rfl, rfl⟩
              go_wp2_with fail
              go_ret
              exact ints_lit rfl rfl (by omega)
        · have g20 : (o == 20) = false := by rw [beq_eq_false_iff_ne]; omega
          have g21 : (o == 21) = false := by rw [beq_eq_false_iff_ne]; omega
          have l19 : ¬ 19 < o := by omega
          have HV : Hid (nextV o a i = [i + 1]) := by
            show _ = _
            unfold nextV
            rw [if_neg (by omega), if_neg k19, if_neg (fun h => l19 h.1)]
          rw [HV.out]
          clear HV k0 k19 k20
          go_enter Tryd.func20, Tryd.ntmps20
          go_wp2_with fail
          refine (known_t _ _ h0 h1).mono ?_
          rintro e w' ⟨rfl, rfl⟩
          go_wp2_with fail
          go_ret
          exact ints_lit rfl rfl (by omega)
  · have HV : Hid (nextV o a i = []) := by
      show _ = _
      unfold nextV
      rw [if_pos (by omega)]
    rw [HV.out]
    go_enter Tryd.func20, Tryd.ntmps20
    go_wp2_with fail
    refine (known_f _ _ hk).mono ?_
    rintro e w' ⟨rfl, rfl⟩
    go_wp2_with fail
    go_ret
    exact ints_nil

set_option maxRecDepth 100000 in
set_option maxHeartbeats 1000000 in
theorem rnext_c (w : World) (o a b c i : Int) (i1 : -9223372036854775808 ≤ i) (i2 : i < 9223372036854775807) : Calls Tryd.prog 21 #[.agg #[.int .i64 o, .int .i64 a, .int .i64 b, .int .i64 c], .int .i64 i] w (Ints w (nextV o a i)) := by
  by_cases hk : 0 ≤ o ∧ o < 22
  · obtain ⟨h0, h1⟩ := hk
    by_cases k0 : o = 0
    · subst k0
      go_enter Tryd.func21, Tryd.ntmps21
      go_wp2_with fail
      go_ret
      exact ints_nil
    · have g0 : (o == 0) = false := by rw [beq_eq_false_iff_ne]; exact k0
      have k1 : ¬ o < 1 := by omega
      have k21 : ¬ 21 < o := by omega
      by_cases k19 : o = 19
      · subst k19
        have HV : Hid (nextV 19 a i = [a]) := rfl
        rw [HV.out]
        go_enter Tryd.func21, Tryd.ntmps21
        go_wp2_with fail
        go_ret
        exact ints_lit rfl rfl (by omega)
      · have g19 : (o == 19) = false := by rw [beq_eq_false_iff_ne]; exact k19
        by_cases k20 : o = 20 ∨ o = 21
        · by_cases ka : a = i + 1
          · have ga : (a != i + 1) = false := by rw [bne_eq_false_iff_eq]; exact ka
            have HV : Hid (nextV o a i = [i + 1]) := by
              show _ = _
              unfold nextV
              rw [if_neg (by omega), if_neg k19, if_neg (fun h => h.2 ka)]
            rw [HV.out]
            clear HV ka k0 k19
            rcases k20 with rfl | rfl
            · go_enter Tryd.func21, Tryd.ntmps21
              go_wp2_with fail
              go_ret
              exact ints_lit rfl rfl (by omega)
            · go_enter Tryd.func21, Tryd.ntmps21
              go_wp2_with fail
              go_ret
              exact ints_lit rfl rfl (by omega)
          · have ga : (a != i + 1) = true := by rw [bne_iff_ne]; exact ka
            have HV : Hid (nextV o a i = [i + 1, a]) := by
              show _ = _
              unfold nextV
              rw [if_neg (by omega), if_neg k19, if_pos ⟨by omega, ka⟩]
            rw [HV.out]
            clear HV ka k0 k19
            rcases k20 with rfl | rfl
            · go_enter Tryd.func21, Tryd.ntmps21
              go_wp2_with fail
              go_ret
              exact ints_lit rfl rfl (by omega)
            · go_enter Tryd.func21, Tryd.ntmps21
              go_wp2_with fail
              go_ret
              exact ints_lit rfl rfl (by omega)
        · have g20 : (o == 20) = false := by rw [beq_eq_false_iff_ne]; omega
          have g21 : (o == 21) = false := by rw [beq_eq_false_iff_ne]; omega
          have l19 : ¬ 19 < o := by omega
          have HV : Hid (nextV o a i = [i + 1]) := by
            show _ = _
            unfold nextV
            rw [if_neg (by omega), if_neg k19, if_neg (fun h => l19 h.1)]
          rw [HV.out]
          clear HV k0 k19 k20
          go_enter Tryd.func21, Tryd.ntmps21
          go_wp2_with fail
          go_ret
          exact ints_lit rfl rfl (by omega)
  · have HV : Hid (nextV o a i = []) := by
      show _ = _
      unfold nextV
      rw [if_pos (by omega)]
    rw [HV.out]
    by_cases k1 : o < 1
    · go_enter Tryd.func21, Tryd.ntmps21
      go_wp2_with fail
      go_ret
      exact ints_nil
    · have k21 : 21 < o := by omega
      go_enter Tryd.func21, Tryd.ntmps21
      go_wp2_with fail
      go_ret
      exact ints_nil

set_option maxRecDepth 100000 in
set_option maxHeartbeats 1000000 in
theorem ints_c (w : World) (A : Option Addr) (n c : Nat) (l : List Int) (h : Hid (RdI w A n c l)) (B : Option Addr) (m d : Nat) (r : List Int) (k : Hid (RdI w B m d r)) : Calls Tryd.prog 15 #[.slice A n c, .slice B m d] w (Gives (.bool (decide (l = r))) w) := by
  have HL := Lib.hid h.out.len
  have HR := Lib.hid k.out.len
  have hle := h.out.le
  have hmx := h.out.max
  have kle := k.out.le
  have kmx := k.out.max
  by_cases hnm : n = m
  · subst hnm
    go_enter Tryd.func15, Tryd.ntmps15
    go_wp2_with fail
    go_loopw [5] (fun iv wr => ∃ q : Nat, q ≤ n ∧ iv = .int .i64 q ∧ Hid (l.take q = r.take q) ∧ Hid (Below w.heap.size w wr)) (fun iv _ => n - (intOf iv).toNat)
    case atStart => exact ⟨0, Nat.zero_le _, rfl, by show _ = _; simp, Below.refl _ _⟩
    case round =>
      obtain ⟨q, hq, rfl, HT, HB⟩ := hrel
      by_cases hlt : q < n
      · have h1 : q < l.length := by rw [HL.out]; exact hlt
        have h2 : q < r.length := by rw [HR.out]; exact hlt
        obtain ⟨b, o, rfl, _, c1⟩ := (h.out.ext HB.out).at hlt
        obtain ⟨b', o', rfl, _, c2⟩ := (k.out.ext HB.out).at hlt
        obtain ⟨x, hx⟩ : ∃ x : Int, x = l.getD q 0 := ⟨_, rfl⟩
        obtain ⟨y, hy⟩ : ∃ y : Int, y = r.getD q 0 := ⟨_, rfl⟩
        rw [← hx] at c1
        rw [← hy] at c2
        have ex : l[q] = x := by rw [hx]; simp [List.getD, h1]
        have ey : r[q] = y := by rw [hy]; simp [List.getD, h2]
        have HX := Lib.hid ex
        have HY := Lib.hid ey
        have hltI : (q : Int) < (n : Int) := by omega
        have hqI : (0 : Int) ≤ (q : Int) := by omega
        clear hx hy ex ey
        by_cases hxy : x = y
        · subst hxy
          have gx : (x != x) = false := by simp
          go_wp2_with fail
          go_quiet (fail)
          go_wp2_with fail
          exact ⟨⟨q + 1, by omega, by go_num, by
            show _ = _
            rw [List.take_succ_eq_append_getElem h1, List.take_succ_eq_append_getElem h2, HT.out, HX.out, HY.out], ext_trans HB.out (ext_draws _ _)⟩, by simp [intOf]; omega⟩
        · have HD : Hid (decide (l = r) = false) := decide_eq_false (fun e => hxy (by rw [← HX.out, ← HY.out]; simp only [e]))
          have gx : (x != y) = true := by rw [bne_iff_ne]; exact hxy
          clear hxy
          go_wp2_with fail
          go_quiet (fail)
          go_wp2_with fail
          go_ret
          exact ⟨by rw [HD.out]; rfl, ext_trans HB.out (ext_draws _ _)⟩
      · obtain rfl : q = n := by omega
        have HD : Hid (decide (l = r) = true) := decide_eq_true (by
          have := HT.out
          rw [List.take_of_length_le (by rw [HL.out]; exact Nat.le_refl _), List.take_of_length_le (by rw [HR.out]; exact Nat.le_refl _)] at this
          exact this)
        go_wp2_with fail
        go_ret
        exact ⟨by rw [HD.out]; rfl, HB.out⟩
  · have gn : ((n : Int) != (m : Int)) = true := by rw [bne_iff_ne]; omega
    have HD : Hid (decide (l = r) = false) := decide_eq_false (fun e => hnm (by rw [← HL.out, ← HR.out, e]))
    rw [HD.out]
    clear hnm
    go_enter Tryd.func15, Tryd.ntmps15
    go_wp2_with fail
    go_ret
    exact ⟨rfl, Below.refl _ _⟩
#print axioms next_c
#print axioms rnext_c
#print axioms ints_c
end Go.Proofs.YtibmkihehaedjaaDoor
