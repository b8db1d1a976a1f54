/-
  code: whether an operation is known; an instruction's three numbers; whether numbers hold one.
-/
import Derived.Test.YtbeileihbhooaaaDoorGMem
import Derived.Test.YtbeileihbhooaaaDoorGForms
import Derived.Outline
import Derived.Deep.Cut
import Derived.Deep.CutRange
namespace Go.Proofs.YtbeileihbhooaaaDoor
open Go.RowKit

theorem known_t (w : World) (o : Int) (h1 : 0 ≤ o) (h2 : o < 22) : Calls Tryd.prog 56 #[.int .i64 o] w (fun e w' => e = .returned (.bool true) ∧ w = w') := by
  go_enter Tryd.func56, Tryd.ntmps56
  go_wp2_with fail
  go_ret
  exact ⟨rfl, rfl⟩
theorem known_f (w : World) (o : Int) (h : ¬ (0 ≤ o ∧ o < 22)) : Calls Tryd.prog 56 #[.int .i64 o] w (fun e w' => e = .returned (.bool false) ∧ w = w') := by
  by_cases h1 : 0 ≤ o
  · have h2 : ¬ o < 22 := by omega
    clear h
    go_enter Tryd.func56, Tryd.ntmps56
    go_wp2_with fail
    go_ret
    exact ⟨rfl, rfl⟩
  · clear h
    go_enter Tryd.func56, Tryd.ntmps56
    go_wp2_with fail
    go_ret
    exact ⟨rfl, rfl⟩
/-- a call that answers a value and makes new memory alone -/
def Gives (v : Value) (w : World) (e : Ending) (w' : World) : Prop := e = .returned v ∧ Below w.heap.size w w'
theorem numbers_c (w : World) (o a b c : Int) : Calls Tryd.prog 57 #[.agg #[.int .i64 o, .int .i64 a, .int .i64 b, .int .i64 c]] w (Gives (.agg #[.int .i64 a, .int .i64 b, .int .i64 c]) w) := by
  go_enter Tryd.func57, Tryd.ntmps57
  go_wp2_with fail
  refine bodyPost_ret (v := .agg #[.int .i64 a, .int .i64 b, .int .i64 c]) (by simp [results, Tryd.results57, go_sem]) rfl ⟨rfl, ?_⟩
  exact ext_trans (ext_alloc w _) (ext_alloc _ _)
theorem three_c (w : World) (o a b c : Int) : Calls Tryd.prog 61 #[.agg #[.int .i64 o, .int .i64 a, .int .i64 b, .int .i64 c]] w (Gives (.agg #[.int .i64 a, .int .i64 b, .int .i64 c]) w) := by
  go_enter Tryd.func61, Tryd.ntmps61
  go_wp2_with fail
  refine bodyPost_ret (v := .agg #[.int .i64 a, .int .i64 b, .int .i64 c]) (by simp [results, Tryd.results61, go_sem]) rfl ⟨rfl, ?_⟩
  exact ext_trans (ext_alloc w _) (ext_alloc _ _)

theorem mem_take_succ {l : List Int} {k : Nat} {x : Int} (hk : k < l.length) (h : ¬ x ∈ l.take k) (hne : ¬ x = l.getD k 0) : ¬ x ∈ l.take (k + 1) := by
  rw [List.take_succ_eq_append_getElem hk, List.mem_append]
  have e : l.getD k 0 = l[k] := by simp [List.getD, hk]
  rw [e] at hne
  rintro (h1 | h1)
  · exact h h1
  · exact hne (by simpa using h1)
def IndexP (l : List Int) (x : Int) (w : World) (e : Ending) (w' : World) : Prop := (∃ r : Int, e = .returned (.int .i64 r) ∧ (0 ≤ r ↔ x ∈ l)) ∧ w = w'
theorem index_c (w : World) (A : Option Addr) (n c : Nat) (l : List Int) (x : Int) (h : Hid (RdI w A n c l)) : Calls Tryd.prog 65 #[.slice A n c, .int .i64 x] w (IndexP l x w) := by
  have HL := Lib.hid h.out.len
  have hle := h.out.le
  have hmx := h.out.max
  go_enter Tryd.func65, Tryd.ntmps65
  go_wp2_with fail
  go_loop [8] (fun iv => ∃ k : Nat, k ≤ n ∧ iv = .int .i64 k ∧ Hid (¬ x ∈ l.take k)) (fun iv => n - (intOf iv).toNat)
  case atStart => exact ⟨0, Nat.zero_le _, rfl, by show ¬ _; simp⟩
  case round =>
    obtain ⟨k, hk, rfl, HN⟩ := hrel
    by_cases hlt : k < n
    · obtain ⟨b, o, rfl, _, c1⟩ := h.out.at hlt
      obtain ⟨y, hy⟩ : ∃ y : Int, y = l.getD k 0 := ⟨_, rfl⟩
      rw [← hy] at c1
      have HY := Lib.hid hy
      clear hy
      have hltI : (k : Int) < (n : Int) := by omega
      have hkI : (0 : Int) ≤ (k : Int) := by omega
      by_cases hxy : x = y
      · have HX := Lib.hid hxy
        have hd : (x == y) = true := by rw [beq_iff_eq]; exact hxy
        clear hxy
        go_wp2_with fail
        go_ret
        exact ⟨⟨_, rfl, fun _ => by rw [HX.out, HY.out]; have : k < l.length := by rw [HL.out]; exact hlt
                                    rw [show l.getD k 0 = l[k] by simp [List.getD, this]]; exact List.getElem_mem _, fun _ => by omega⟩, rfl⟩
      · have HX := Lib.hid hxy
        have hd : (x == y) = false := by rw [beq_eq_false_iff_ne]; exact hxy
        clear hxy
        go_wp2_with fail
        go_round
        case rel => exact ⟨k + 1, by omega, by go_num, mem_take_succ (by rw [HL.out]; exact hlt) HN.out (by rw [← HY.out]; exact HX.out)⟩
        case measure => simp [intOf]; omega
    · obtain rfl : k = n := by omega
      go_wp2_with fail
      go_ret
      refine ⟨⟨_, rfl, fun h0 => absurd h0 (by omega), fun hm => absurd hm ?_⟩, rfl⟩
      have := HN.out
      rw [List.take_of_length_le (by rw [HL.out]; exact Nat.le_refl _)] at this
      exact this
theorem contains_c (w : World) (A : Option Addr) (n c : Nat) (l : List Int) (x : Int) (h : Hid (RdI w A n c l)) : Calls Tryd.prog 58 #[.slice A n c, .int .i64 x] w (fun e w' => e = .returned (.bool (decide (x ∈ l))) ∧ w = w') := by
  by_cases hm : x ∈ l
  · rw [decide_eq_true hm]
    go_enter Tryd.func58, Tryd.ntmps58
    go_wp2_with fail
    refine (index_c _ _ _ _ _ _ h).mono ?_
    rintro e w' ⟨⟨r, rfl, hr⟩, rfl⟩
    have h0 : 0 ≤ r := hr.2 hm
    clear hr
    go_wp2_with fail
    go_ret
    exact ⟨rfl, rfl⟩
  · rw [decide_eq_false hm]
    go_enter Tryd.func58, Tryd.ntmps58
    go_wp2_with fail
    refine (index_c _ _ _ _ _ _ h).mono ?_
    rintro e w' ⟨⟨r, rfl, hr⟩, rfl⟩
    have h0 : decide (0 ≤ r) = false := decide_eq_false (fun h => hm (hr.1 h))
    clear hr
    go_wp2_with fail
    go_ret
    exact ⟨rfl, rfl⟩
#print axioms contains_c
end Go.Proofs.YtbeileihbhooaaaDoor
