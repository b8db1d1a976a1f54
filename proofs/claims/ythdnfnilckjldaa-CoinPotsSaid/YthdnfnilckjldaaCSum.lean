/-
  coin: Right, Add, Sub, and the document's: contracts.
-/
import Derived.Test.YthdnfnilckjldaaMem
import Derived.Test.YthdnfnilckjldaaRows
import Derived.Lib.Hide
import Derived.Outline
import Derived.WalkLawsBesides
import Derived.WalkSpells
namespace Go.Proofs.Ythdnfnilckjldaa
open Go.RowKit

/-- an amount -/
def Amt (a : Int) : Prop := 0 ≤ a ∧ a ≤ 1125899906842624
instance (a : Int) : Decidable (Amt a) := inferInstanceAs (Decidable (_ ∧ _))
def addF (a b : Int) : Int × Int := if Amt a ∧ Amt b ∧ Amt (a + b) then (a + b, 0) else (0, 2)
def subF (a b : Int) : Int × Int := if Amt a ∧ Amt b then (if b ≤ a then (a - b, 0) else (0, 21)) else (0, 2)

/-- the call hands back these two numbers, and leaves the world alone -/
def Two (p : Int × Int) (w : World) (e : Ending) (w' : World) : Prop := e = .returned (.tuple #[.int .i64 p.1, .int .i64 p.2]) ∧ w = w'

set_option maxRecDepth 100000 in
theorem right_t (w : World) (a : Int) (h : Amt a) : Calls Try.prog 18 #[.int .i64 a] w (fun e w' => e = .returned (.bool true) ∧ w = w') := by
  obtain ⟨h1, h2⟩ := h
  go_enter Try.func18, Try.ntmps18
  go_wp2
  go_ret
  exact ⟨rfl, rfl⟩
set_option maxRecDepth 100000 in
theorem right_f (w : World) (a : Int) (h : ¬ Amt a) : Calls Try.prog 18 #[.int .i64 a] w (fun e w' => e = .returned (.bool false) ∧ w = w') := by
  unfold Amt at h
  by_cases h1 : 0 ≤ a
  · have h2 : ¬ a ≤ 1125899906842624 := by omega
    clear h
    go_enter Try.func18, Try.ntmps18
    go_wp2
    go_ret
    exact ⟨rfl, rfl⟩
  · clear h
    go_enter Try.func18, Try.ntmps18
    go_wp2
    go_ret
    exact ⟨rfl, rfl⟩
set_option maxRecDepth 100000 in
theorem rright_t (w : World) (a : Int) (h : Amt a) : Calls Try.prog 19 #[.int .i64 a] w (fun e w' => e = .returned (.bool true) ∧ w = w') := by
  obtain ⟨h1, h2⟩ := h
  go_enter Try.func19, Try.ntmps19
  go_wp2
  go_ret
  exact ⟨rfl, rfl⟩
set_option maxRecDepth 100000 in
theorem rright_f (w : World) (a : Int) (h : ¬ Amt a) : Calls Try.prog 19 #[.int .i64 a] w (fun e w' => e = .returned (.bool false) ∧ w = w') := by
  unfold Amt at h
  by_cases h1 : a ≥ 0
  · have h2 : ¬ a ≤ 1125899906842624 := by omega
    clear h
    go_enter Try.func19, Try.ntmps19
    go_wp2
    go_ret
    exact ⟨rfl, rfl⟩
  · clear h
    go_enter Try.func19, Try.ntmps19
    go_wp2
    go_ret
    exact ⟨rfl, rfl⟩
set_option maxRecDepth 100000 in
theorem add_c (w : World) (a b : Int) : Calls Try.prog 12 #[.int .i64 a, .int .i64 b] w (Two (addF a b) w) := by
  by_cases ha' : Amt a
  · have ha := Lib.hid ha'
    by_cases hb' : Amt b
    · have hb := Lib.hid hb'
      have hw : IntKind.i64.wrap (a + b) = a + b := IntWalk.i64_in _ (by unfold Amt at *; omega)
      by_cases hs' : Amt (a + b)
      · have hs := Lib.hid hs'
        have hr : Hid (addF a b = (a + b, 0)) := if_pos ⟨ha', hb', hs'⟩
        clear ha' hb' hs'
        go_enter Try.func12, Try.ntmps12
        go_wp2_with fail
        refine (right_t _ _ ha.out).mono ?_
        rintro e v ⟨rfl, rfl⟩
        go_wp2_with fail
        refine (right_t _ _ hb.out).mono ?_
        rintro e v ⟨rfl, rfl⟩
        go_wp2_with fail
        refine (right_t _ _ hs.out).mono ?_
        rintro e v ⟨rfl, rfl⟩
        go_wp2_with fail
        go_ret2
        exact ⟨by rw [hr.out]; rfl, rfl⟩
      · have hs := Lib.hid hs'
        have hr : Hid (addF a b = (0, 2)) := if_neg (fun h => hs' h.2.2)
        clear ha' hb' hs'
        go_enter Try.func12, Try.ntmps12
        go_wp2_with fail
        refine (right_t _ _ ha.out).mono ?_
        rintro e v ⟨rfl, rfl⟩
        go_wp2_with fail
        refine (right_t _ _ hb.out).mono ?_
        rintro e v ⟨rfl, rfl⟩
        go_wp2_with fail
        refine (right_f _ _ hs.out).mono ?_
        rintro e v ⟨rfl, rfl⟩
        go_wp2_with fail
        go_ret2
        exact ⟨by rw [hr.out]; rfl, rfl⟩
    · have hb := Lib.hid hb'
      have hr : Hid (addF a b = (0, 2)) := if_neg (fun h => hb' h.2.1)
      clear ha' hb'
      go_enter Try.func12, Try.ntmps12
      go_wp2_with fail
      refine (right_t _ _ ha.out).mono ?_
      rintro e v ⟨rfl, rfl⟩
      go_wp2_with fail
      refine (right_f _ _ hb.out).mono ?_
      rintro e v ⟨rfl, rfl⟩
      go_wp2_with fail
      go_ret2
      exact ⟨by rw [hr.out]; rfl, rfl⟩
  · have ha := Lib.hid ha'
    have hr : Hid (addF a b = (0, 2)) := if_neg (fun h => ha' h.1)
    clear ha'
    go_enter Try.func12, Try.ntmps12
    go_wp2_with fail
    refine (right_f _ _ ha.out).mono ?_
    rintro e v ⟨rfl, rfl⟩
    go_wp2_with fail
    go_ret2
    exact ⟨by rw [hr.out]; rfl, rfl⟩
set_option maxRecDepth 100000 in
theorem radd_c (w : World) (a b : Int) : Calls Try.prog 15 #[.int .i64 a, .int .i64 b] w (Two (addF a b) w) := by
  by_cases ha' : Amt a
  · have ha := Lib.hid ha'
    by_cases hb' : Amt b
    · have hb := Lib.hid hb'
      have hw : IntKind.i64.wrap (a + b) = a + b := IntWalk.i64_in _ (by unfold Amt at *; omega)
      by_cases hs' : Amt (a + b)
      · have hs := Lib.hid hs'
        have hr : Hid (addF a b = (a + b, 0)) := if_pos ⟨ha', hb', hs'⟩
        clear ha' hb' hs'
        go_enter Try.func15, Try.ntmps15
        go_wp2_with fail
        refine (rright_t _ _ ha.out).mono ?_
        rintro e v ⟨rfl, rfl⟩
        go_wp2_with fail
        refine (rright_t _ _ hb.out).mono ?_
        rintro e v ⟨rfl, rfl⟩
        go_wp2_with fail
        refine (rright_t _ _ hs.out).mono ?_
        rintro e v ⟨rfl, rfl⟩
        go_wp2_with fail
        go_ret2
        exact ⟨by rw [hr.out]; rfl, rfl⟩
      · have hs := Lib.hid hs'
        have hr : Hid (addF a b = (0, 2)) := if_neg (fun h => hs' h.2.2)
        clear ha' hb' hs'
        go_enter Try.func15, Try.ntmps15
        go_wp2_with fail
        refine (rright_t _ _ ha.out).mono ?_
        rintro e v ⟨rfl, rfl⟩
        go_wp2_with fail
        refine (rright_t _ _ hb.out).mono ?_
        rintro e v ⟨rfl, rfl⟩
        go_wp2_with fail
        refine (rright_f _ _ hs.out).mono ?_
        rintro e v ⟨rfl, rfl⟩
        go_wp2_with fail
        go_ret2
        exact ⟨by rw [hr.out]; rfl, rfl⟩
    · have hb := Lib.hid hb'
      have hr : Hid (addF a b = (0, 2)) := if_neg (fun h => hb' h.2.1)
      clear ha' hb'
      go_enter Try.func15, Try.ntmps15
      go_wp2_with fail
      refine (rright_t _ _ ha.out).mono ?_
      rintro e v ⟨rfl, rfl⟩
      go_wp2_with fail
      refine (rright_f _ _ hb.out).mono ?_
      rintro e v ⟨rfl, rfl⟩
      go_wp2_with fail
      go_ret2
      exact ⟨by rw [hr.out]; rfl, rfl⟩
  · have ha := Lib.hid ha'
    have hr : Hid (addF a b = (0, 2)) := if_neg (fun h => ha' h.1)
    clear ha'
    go_enter Try.func15, Try.ntmps15
    go_wp2_with fail
    refine (rright_f _ _ ha.out).mono ?_
    rintro e v ⟨rfl, rfl⟩
    go_wp2_with fail
    go_ret2
    exact ⟨by rw [hr.out]; rfl, rfl⟩
set_option maxRecDepth 100000 in
theorem sub_c (w : World) (a b : Int) : Calls Try.prog 13 #[.int .i64 a, .int .i64 b] w (Two (subF a b) w) := by
  by_cases ha' : Amt a
  · have ha := Lib.hid ha'
    by_cases hb' : Amt b
    · have hb := Lib.hid hb'
      have hw : IntKind.i64.wrap (a - b) = a - b := IntWalk.i64_in _ (by unfold Amt at *; omega)
      by_cases hs : b ≤ a
      · have hr : Hid (subF a b = (a - b, 0)) := by show subF a b = _; rw [subF, if_pos ⟨ha', hb'⟩, if_pos hs]
        clear ha' hb'
        have hd : decide (a < b) = false := by simp; omega
        go_enter Try.func13, Try.ntmps13
        go_wp2_with fail
        refine (right_t _ _ ha.out).mono ?_
        rintro e v ⟨rfl, rfl⟩
        go_wp2_with fail
        refine (right_t _ _ hb.out).mono ?_
        rintro e v ⟨rfl, rfl⟩
        go_wp2_with fail
        go_ret2
        exact ⟨by rw [hr.out]; rfl, rfl⟩
      · have hr : Hid (subF a b = (0, 21)) := by show subF a b = _; rw [subF, if_pos ⟨ha', hb'⟩, if_neg hs]
        clear ha' hb'
        have hd : decide (a < b) = true := by simp; omega
        go_enter Try.func13, Try.ntmps13
        go_wp2_with fail
        refine (right_t _ _ ha.out).mono ?_
        rintro e v ⟨rfl, rfl⟩
        go_wp2_with fail
        refine (right_t _ _ hb.out).mono ?_
        rintro e v ⟨rfl, rfl⟩
        go_wp2_with fail
        go_ret2
        exact ⟨by rw [hr.out]; rfl, rfl⟩
    · have hb := Lib.hid hb'
      have hr : Hid (subF a b = (0, 2)) := if_neg (fun h => hb' h.2)
      clear ha' hb'
      go_enter Try.func13, Try.ntmps13
      go_wp2_with fail
      refine (right_t _ _ ha.out).mono ?_
      rintro e v ⟨rfl, rfl⟩
      go_wp2_with fail
      refine (right_f _ _ hb.out).mono ?_
      rintro e v ⟨rfl, rfl⟩
      go_wp2_with fail
      go_ret2
      exact ⟨by rw [hr.out]; rfl, rfl⟩
  · have ha := Lib.hid ha'
    have hr : Hid (subF a b = (0, 2)) := if_neg (fun h => ha' h.1)
    clear ha'
    go_enter Try.func13, Try.ntmps13
    go_wp2_with fail
    refine (right_f _ _ ha.out).mono ?_
    rintro e v ⟨rfl, rfl⟩
    go_wp2_with fail
    go_ret2
    exact ⟨by rw [hr.out]; rfl, rfl⟩
set_option maxRecDepth 100000 in
theorem rsub_c (w : World) (a b : Int) : Calls Try.prog 16 #[.int .i64 a, .int .i64 b] w (Two (subF a b) w) := by
  by_cases ha' : Amt a
  · have ha := Lib.hid ha'
    by_cases hb' : Amt b
    · have hb := Lib.hid hb'
      have hw : IntKind.i64.wrap (a - b) = a - b := IntWalk.i64_in _ (by unfold Amt at *; omega)
      by_cases hs : b ≤ a
      · have hr : Hid (subF a b = (a - b, 0)) := by show subF a b = _; rw [subF, if_pos ⟨ha', hb'⟩, if_pos hs]
        clear ha' hb'
        have hd : decide (a < b) = false := by simp; omega
        go_enter Try.func16, Try.ntmps16
        go_wp2_with fail
        refine (rright_t _ _ ha.out).mono ?_
        rintro e v ⟨rfl, rfl⟩
        go_wp2_with fail
        refine (rright_t _ _ hb.out).mono ?_
        rintro e v ⟨rfl, rfl⟩
        go_wp2_with fail
        go_ret2
        exact ⟨by rw [hr.out]; rfl, rfl⟩
      · have hr : Hid (subF a b = (0, 21)) := by show subF a b = _; rw [subF, if_pos ⟨ha', hb'⟩, if_neg hs]
        clear ha' hb'
        have hd : decide (a < b) = true := by simp; omega
        go_enter Try.func16, Try.ntmps16
        go_wp2_with fail
        refine (rright_t _ _ ha.out).mono ?_
        rintro e v ⟨rfl, rfl⟩
        go_wp2_with fail
        refine (rright_t _ _ hb.out).mono ?_
        rintro e v ⟨rfl, rfl⟩
        go_wp2_with fail
        go_ret2
        exact ⟨by rw [hr.out]; rfl, rfl⟩
    · have hb := Lib.hid hb'
      have hr : Hid (subF a b = (0, 2)) := if_neg (fun h => hb' h.2)
      clear ha' hb'
      go_enter Try.func16, Try.ntmps16
      go_wp2_with fail
      refine (rright_t _ _ ha.out).mono ?_
      rintro e v ⟨rfl, rfl⟩
      go_wp2_with fail
      refine (rright_f _ _ hb.out).mono ?_
      rintro e v ⟨rfl, rfl⟩
      go_wp2_with fail
      go_ret2
      exact ⟨by rw [hr.out]; rfl, rfl⟩
  · have ha := Lib.hid ha'
    have hr : Hid (subF a b = (0, 2)) := if_neg (fun h => ha' h.1)
    clear ha'
    go_enter Try.func16, Try.ntmps16
    go_wp2_with fail
    refine (rright_f _ _ ha.out).mono ?_
    rintro e v ⟨rfl, rfl⟩
    go_wp2_with fail
    go_ret2
    exact ⟨by rw [hr.out]; rfl, rfl⟩
#print axioms rsub_c
end Go.Proofs.Ythdnfnilckjldaa
