/-
  OctetShort: the walk.
-/
import Derived.Test.YtcikknhjhokmdaaKnown
import Derived.Test.YtcikknhjhokmdaaFrame
namespace Go.Proofs.Ytcikknhjhokmdaa
open Go.RowKit
theorem num_mono : ∀ (m n : Nat), n ≤ m → (num n).length ≤ (num m).length := by
  intro m
  induction m using Nat.strongRecOn with
  | _ m ih =>
    intro n h
    by_cases hn : n < 128
    · rw [num_small hn]
      have := num_pos m
      simp; omega
    · rw [num_big hn, num_big (show ¬ m < 128 by omega), List.length_cons, List.length_cons]
      have := ih (m / 128) (by omega) (n / 128) (by omega)
      omega
/-- how many bytes what is left asks for -/
def more (r : Nat) : Nat := if r = 0 then 0 else (num r).length
theorem more_zero : more 0 = 0 := rfl
theorem more_step {r : Nat} (h : 0 < r) : more r = 1 + more (r / 128) := by
  unfold more
  rw [if_neg (by omega)]
  by_cases hs : r < 128
  · rw [num_small hs, if_pos (by omega)]; rfl
  · rw [num_big hs, if_neg (by omega), List.length_cons]; omega
theorem more_num (n : Nat) : (num n).length = 1 + more (n / 128) := by
  unfold more
  by_cases hs : n < 128
  · rw [num_small hs, if_pos (by omega)]; rfl
  · rw [num_big hs, if_neg (by omega), List.length_cons]; omega

set_option maxRecDepth 100000 in
set_option maxHeartbeats 400000 in
theorem short_lt (w : World) (n m : Nat) (hn' : Hid (n < 18446744073709551616)) (hm' : Hid (m < 18446744073709551616)) (h : n < m) (H : Hid ((num n).length ≤ (num m).length))
    (M : Hid ((num n).length = 1 + more (n / 128))) :
    Calls Try.prog 8 #[.int .u64 n, .int .u64 m] w (Holds w) := by
  go_enter Try.func8, Try.ntmps8
  go_wp2_with fail
  refine (putNum_i _ _ _ _ [] (Rd.nil _) (by omega) n hn'.out _ rfl).mono ?_
  rintro e w1 ⟨A1, n1, c1, rfl, ho1, hb1⟩
  go_wp2_with fail
  refine (putNum_i _ _ _ _ [] (Rd.nil _) (by omega) m hm'.out _ rfl).mono ?_
  rintro e w2 ⟨A2, n2, c2, rfl, ho2, hb2⟩
  have q2 : Below w.heap.size w w2 := ext_trans hb1 hb2
  have L1 : n1 ≤ n2 := by have a := ho1.len; have b := ho2.len; have c := H.out; simp only [List.nil_append] at a b; omega
  have N1 : Hid (n1 = 1 + more (n / 128)) := by have a := ho1.len; have b := M.out; simp only [List.nil_append] at a; show _ = _; omega
  have T1 : n1 ≤ 10 := by have a := ho1.len; have b := num_ten hn'.out; simp only [List.nil_append] at a; omega
  clear ho1 ho2 hb1 hb2 H M
  go_wp2_with fail
  go_loop [7, 8] (fun kv rv => ∃ (k r : Nat), kv = .int .i64 k ∧ rv = .int .u64 r ∧ Hid (k + more r = n1) ∧ k ≤ 10 ∧ Hid (r < 18446744073709551616)) (fun _ rv => (intOf rv).toNat)
  case atStart => exact ⟨1, n / 128, rfl, by rw [u64_div hn'.out], by have := N1.out; show _ = _; omega, by omega, by have := hn'.out; show _ < _; omega⟩
  case round =>
    obtain ⟨k, r, rfl, rfl, hk, hk10, hr⟩ := hrel
    by_cases h0 : 0 < r
    · go_wp2_with fail
      go_round
      case rel => exact ⟨k + 1, r / 128, by go_num, by rw [u64_div hr.out], by have := hk.out; have := more_step h0; show _ = _; omega, by have := hk.out; have := more_step h0; omega, by have := hr.out; show _ < _; omega⟩
      case measure => rw [u64_div hr.out]; simp [intOf]; omega
    · obtain rfl : r = 0 := by omega
      have hk2 : n1 = k := by have := hk.out; rw [more_zero] at this; omega
      subst hk2
      clear hk N1
      go_wp2_with fail
      refine (known_c _).mono ?_
      rintro e w3 ⟨rfl, hb3⟩
      go_wp2_with fail
      go_ret
      exact ⟨by simp, ext_trans q2 hb3⟩

set_option maxRecDepth 100000 in
set_option maxHeartbeats 400000 in
theorem short_gt (w : World) (n m : Nat) (hn' : Hid (n < 18446744073709551616)) (hm' : Hid (m < 18446744073709551616)) (h : m < n) (H : Hid ((num m).length ≤ (num n).length))
    (M : Hid ((num n).length = 1 + more (n / 128))) :
    Calls Try.prog 8 #[.int .u64 n, .int .u64 m] w (Holds w) := by
  go_enter Try.func8, Try.ntmps8
  go_wp2_with fail
  refine (putNum_i _ _ _ _ [] (Rd.nil _) (by omega) n hn'.out _ rfl).mono ?_
  rintro e w1 ⟨A1, n1, c1, rfl, ho1, hb1⟩
  go_wp2_with fail
  refine (putNum_i _ _ _ _ [] (Rd.nil _) (by omega) m hm'.out _ rfl).mono ?_
  rintro e w2 ⟨A2, n2, c2, rfl, ho2, hb2⟩
  have q2 : Below w.heap.size w w2 := ext_trans hb1 hb2
  have L1 : n2 ≤ n1 := by have a := ho1.len; have b := ho2.len; have c := H.out; simp only [List.nil_append] at a b; omega
  have N1 : Hid (n1 = 1 + more (n / 128)) := by have a := ho1.len; have b := M.out; simp only [List.nil_append] at a; show _ = _; omega
  have T1 : n1 ≤ 10 := by have a := ho1.len; have b := num_ten hn'.out; simp only [List.nil_append] at a; omega
  clear ho1 ho2 hb1 hb2 H M
  go_wp2_with fail
  go_loop [7, 8] (fun kv rv => ∃ (k r : Nat), kv = .int .i64 k ∧ rv = .int .u64 r ∧ Hid (k + more r = n1) ∧ k ≤ 10 ∧ Hid (r < 18446744073709551616)) (fun _ rv => (intOf rv).toNat)
  case atStart => exact ⟨1, n / 128, rfl, by rw [u64_div hn'.out], by have := N1.out; show _ = _; omega, by omega, by have := hn'.out; show _ < _; omega⟩
  case round =>
    obtain ⟨k, r, rfl, rfl, hk, hk10, hr⟩ := hrel
    by_cases h0 : 0 < r
    · go_wp2_with fail
      go_round
      case rel => exact ⟨k + 1, r / 128, by go_num, by rw [u64_div hr.out], by have := hk.out; have := more_step h0; show _ = _; omega, by have := hk.out; have := more_step h0; omega, by have := hr.out; show _ < _; omega⟩
      case measure => rw [u64_div hr.out]; simp [intOf]; omega
    · obtain rfl : r = 0 := by omega
      have hk2 : n1 = k := by have := hk.out; rw [more_zero] at this; omega
      subst hk2
      clear hk N1
      go_wp2_with fail
      refine (known_c _).mono ?_
      rintro e w3 ⟨rfl, hb3⟩
      go_wp2_with fail
      go_ret
      exact ⟨by simp, ext_trans q2 hb3⟩

set_option maxRecDepth 100000 in
set_option maxHeartbeats 400000 in
theorem short_eq (w : World) (n : Nat) (hn' : Hid (n < 18446744073709551616)) 
    (M : Hid ((num n).length = 1 + more (n / 128))) :
    Calls Try.prog 8 #[.int .u64 n, .int .u64 n] w (Holds w) := by
  go_enter Try.func8, Try.ntmps8
  go_wp2_with fail
  refine (putNum_i _ _ _ _ [] (Rd.nil _) (by omega) n hn'.out _ rfl).mono ?_
  rintro e w1 ⟨A1, n1, c1, rfl, ho1, hb1⟩
  go_wp2_with fail
  refine (putNum_i _ _ _ _ [] (Rd.nil _) (by omega) n hn'.out _ rfl).mono ?_
  rintro e w2 ⟨A2, n2, c2, rfl, ho2, hb2⟩
  have q2 : Below w.heap.size w w2 := ext_trans hb1 hb2
  have L1 : n1 ≤ n2 := by have a := ho1.len; have b := ho2.len; simp only [List.nil_append] at a b; omega
  have L2 : n2 ≤ n1 := by have a := ho1.len; have b := ho2.len; simp only [List.nil_append] at a b; omega
  have N1 : Hid (n1 = 1 + more (n / 128)) := by have a := ho1.len; have b := M.out; simp only [List.nil_append] at a; show _ = _; omega
  have T1 : n1 ≤ 10 := by have a := ho1.len; have b := num_ten hn'.out; simp only [List.nil_append] at a; omega
  clear ho1 ho2 hb1 hb2 M
  go_wp2_with fail
  go_loop [7, 8] (fun kv rv => ∃ (k r : Nat), kv = .int .i64 k ∧ rv = .int .u64 r ∧ Hid (k + more r = n1) ∧ k ≤ 10 ∧ Hid (r < 18446744073709551616)) (fun _ rv => (intOf rv).toNat)
  case atStart => exact ⟨1, n / 128, rfl, by rw [u64_div hn'.out], by have := N1.out; show _ = _; omega, by omega, by have := hn'.out; show _ < _; omega⟩
  case round =>
    obtain ⟨k, r, rfl, rfl, hk, hk10, hr⟩ := hrel
    by_cases h0 : 0 < r
    · go_wp2_with fail
      go_round
      case rel => exact ⟨k + 1, r / 128, by go_num, by rw [u64_div hr.out], by have := hk.out; have := more_step h0; show _ = _; omega, by have := hk.out; have := more_step h0; omega, by have := hr.out; show _ < _; omega⟩
      case measure => rw [u64_div hr.out]; simp [intOf]; omega
    · obtain rfl : r = 0 := by omega
      have hk2 : n1 = k := by have := hk.out; rw [more_zero] at this; omega
      subst hk2
      clear hk N1
      go_wp2_with fail
      refine (known_c _).mono ?_
      rintro e w3 ⟨rfl, hb3⟩
      go_wp2_with fail
      go_ret
      exact ⟨by simp, ext_trans q2 hb3⟩

theorem walkOctetShort (w : World) (n m : Nat) (hn : n < 18446744073709551616) (hm : m < 18446744073709551616) :
    Calls Try.prog 8 #[.int .u64 n, .int .u64 m] w (Holds w) := by
  rcases (show n < m ∨ n = m ∨ m < n by omega) with h | h | h
  · exact short_lt w n m hn hm h (num_mono m n (by omega)) (more_num n)
  · subst h
    exact short_eq w n hn (more_num n)
  · exact short_gt w n m hn hm h (num_mono n m (by omega)) (more_num n)
#print axioms walkOctetShort
end Go.Proofs.Ytcikknhjhokmdaa
