/-
  code: may an instruction be: the program's contract.
-/
import Derived.Test.YtbeileihbhooaaaDoorGWord
namespace Go.Proofs.YtbeileihbhooaaaDoor
open Go.RowKit

theorem inRange_t (w : World) (x : Int) (h1 : -2147483648 ≤ x) (h2 : x ≤ 2147483647) : Calls Tryd.prog 64 #[.int .i64 x] w (fun e w' => e = .returned (.bool true) ∧ w = w') := by
  go_enter Tryd.func64, Tryd.ntmps64
  go_wp2_with fail
  go_ret
  exact ⟨rfl, rfl⟩
theorem inRange_f (w : World) (x : Int) (h : ¬ (-2147483648 ≤ x ∧ x ≤ 2147483647)) : Calls Tryd.prog 64 #[.int .i64 x] w (fun e w' => e = .returned (.bool false) ∧ w = w') := by
  by_cases h1 : -2147483648 ≤ x
  · have h2 : ¬ x ≤ 2147483647 := by omega
    clear h
    go_enter Tryd.func64, Tryd.ntmps64
    go_wp2_with fail
    go_ret
    exact ⟨rfl, rfl⟩
  · clear h
    go_enter Tryd.func64, Tryd.ntmps64
    go_wp2_with fail
    go_ret
    exact ⟨rfl, rfl⟩

/-- what is asked of one operation alone -/
def ownOk (o a b c : Int) : Bool := if o = 0 then decide (a = 0 ∨ a = 1) else if o = 17 then decide (b ≤ c) else if o = 18 then decide (0 ≤ c) else true
theorem right_off {o a b c size words : Int} {k : Nat} (hk : k < 3) (h : partOk (hasB o.toNat) (three a b c) size words k = false) : rightV o a b c size words = false := by
  unfold rightV
  rcases (by omega : k = 0 ∨ k = 1 ∨ k = 2) with rfl | rfl | rfl <;> simp [h]
theorem right_on {o a b c size words : Int} (ho : 0 ≤ o ∧ o < 22) (h : ∀ k, k < 3 → partOk (hasB o.toNat) (three a b c) size words k = true) : rightV o a b c size words = ownOk o a b c := by
  unfold rightV ownOk
  rw [h 0 (by omega), h 1 (by omega), h 2 (by omega), decide_eq_true ho]
  simp
theorem right_un {o a b c size words : Int} (ho : ¬ (0 ≤ o ∧ o < 22)) : rightV o a b c size words = false := by
  unfold rightV
  rw [decide_eq_false ho]
  simp
theorem part_none {has : List UInt8} {t : Nat → Int} {size words : Int} {k : Nat} (h : has.length ≤ k) : partOk has t size words k = decide (t k = 0) := by unfold partOk; rw [if_pos h]
theorem part_num {has : List UInt8} {t : Nat → Int} {size words : Int} {k : Nat} (h : k < has.length) (hx : has.getD k 0 = 110) : partOk has t size words k = decide (-2147483648 ≤ t k ∧ t k ≤ 2147483647) := by unfold partOk; rw [if_neg (by omega), if_pos hx]
theorem part_place {has : List UInt8} {t : Nat → Int} {size words : Int} {k : Nat} (h : k < has.length) (hx : has.getD k 0 = 112) : partOk has t size words k = decide (0 ≤ t k ∧ t k < size) := by
  unfold partOk; rw [if_neg (by omega), if_neg (by rw [hx]; decide), if_pos hx]
theorem part_word {has : List UInt8} {t : Nat → Int} {size words : Int} {k : Nat} (h : k < has.length) (h1 : ¬ has.getD k 0 = 110) (h2 : ¬ has.getD k 0 = 112) : partOk has t size words k = decide (0 ≤ t k ∧ t k < words) := by
  unfold partOk; rw [if_neg (by omega), if_neg h1, if_neg h2]

set_option maxRecDepth 100000 in
set_option maxHeartbeats 4000000 in
theorem right_c (w : World) (hf : Hid (Forms w)) (o a b c size words : Int) : Calls Tryd.prog 55 #[.agg #[.int .i64 o, .int .i64 a, .int .i64 b, .int .i64 c], .int .i64 size, .int .i64 words] w (Gives (.bool (rightV o a b c size words)) w) := by
  by_cases ho : 0 ≤ o ∧ o < 22
  · obtain ⟨m, rfl⟩ : ∃ m : Nat, o = (m : Int) := ⟨o.toNat, by omega⟩
    have hm : m < 22 := by omega
    have hmI : (m : Int) < 22 := by omega
    have hm0 : (0 : Int) ≤ (m : Int) := by omega
    have HOFF : Hid (∀ k, k < 3 → partOk (hasB m) (three a b c) size words k = false → rightV m a b c size words = false) := fun k hk h => right_off hk (by rw [Int.toNat_natCast]; exact h)
    have HON : Hid ((∀ k, k < 3 → partOk (hasB m) (three a b c) size words k = true) → rightV m a b c size words = ownOk m a b c) := fun h => right_on ho (by rw [Int.toNat_natCast]; exact h)
    obtain ⟨R, hR⟩ : ∃ R, R = rightV m a b c size words := ⟨_, rfl⟩
    rw [← hR] at HOFF HON ⊢
    clear hR
    obtain ⟨hs, hhs⟩ : ∃ hs, hs = hasB m := ⟨_, rfl⟩
    obtain ⟨n, hn⟩ : ∃ n, n = hs.length := ⟨_, rfl⟩
    have hn3 : n ≤ 3 := by rw [hn, hhs]; exact (hasB_len m hm).2
    obtain ⟨S, hS⟩ : ∃ S : ByteArray, S = ⟨hs.toArray⟩ := ⟨_, rfl⟩
    have HSD : Hid (S.data = hs.toArray) := by show _ = _; rw [hS]
    have HSZ : S.size = n := by rw [hS, hn]; rfl
    have CH : Hid (Forms w → w.cell? ⟨0, m * 2 + 1, none⟩ = some (.string S)) := fun h => by rw [hS, hhs]; exact h.has m hm
    rw [← hhs] at HOFF HON
    have HN := Lib.hid hn.symm
    clear hhs hS hn ho
    obtain ⟨P, hP⟩ : ∃ P : Nat → Bool, P = partOk hs (three a b c) size words := ⟨_, rfl⟩
    have HP := Lib.hid hP
    rw [← hP] at HOFF HON
    clear hP
    go_enter Tryd.func55, Tryd.ntmps55
    go_wp2_with fail
    refine (known_t _ _ hm0 hmI).mono ?_
    rintro e w' ⟨rfl, rfl⟩
    have ch : w.cell? ⟨0, m * 2 + 1, none⟩ = some (.string S) := CH.out hf.out
    have ch2 := ((ext_alloc w (.cells #[.int .i64 m, .int .i64 a, .int .i64 b, .int .i64 c] 57)).cell (p := ⟨0, m * 2 + 1, none⟩) hf.out.lt).trans ch
    clear ch CH
    go_wp2_with fail
    clear ch2
    refine (numbers_c _ _ _ _ _).mono ?_
    rintro e V ⟨rfl, hb⟩
    obtain ⟨g, hg⟩ : ∃ g, g = w.heap.size := ⟨_, rfl⟩
    have B4 : Hid (V.heap[g]? = some (.cells #[.int .i64 m, .int .i64 a, .int .i64 b, .int .i64 c] 57 (0, 0))) := by rw [hg]; exact below_keep hb (by simp) (Go.heap_alloc_new w _)
    have B2 : Hid (Below w.heap.size w V) := ext_trans (ext_alloc w _) hb
    rw [← hg]
    clear hb hg
    go_wp2_with fail
    go_loopw [21] (fun iv wr => ∃ k : Nat, k ≤ 3 ∧ iv = .int .i64 k ∧ Hid (∀ j, j < k → P j = true) ∧ wr = V) (fun iv _ => 3 - (intOf iv).toNat)
    case atStart => exact ⟨0, Nat.zero_le _, rfl, (fun j hj => absurd hj (by omega)), rfl⟩
    case round =>
      obtain ⟨k, hk, rfl, HA, rfl⟩ := hrel
      by_cases k3 : k < 3
      · have k3I : (k : Int) < 3 := by omega
        have hkI : (0 : Int) ≤ (k : Int) := by omega
        obtain ⟨t, ht⟩ : ∃ t : Int, t = three a b c k := ⟨_, rfl⟩
        have I2 : ∀ w, (Instr.index 83 (.agg #[.int .i64 a, .int .i64 b, .int .i64 c]) (.int .i64 (k : Int))).run Tryd.prog w = .ok (.int .i64 t) w := run_index_aggG Tryd.underlying83 (by omega) (by omega) (by kernel_rfl) (by kernel_rfl) (by
          rw [ht, Int.toNat_natCast]
          rcases (by omega : k = 0 ∨ k = 1 ∨ k = 2) with rfl | rfl | rfl <;> rfl)
        have HT := Lib.hid ht
        clear ht
        by_cases hkn : n ≤ k
        · have hknI : (n : Int) ≤ (k : Int) := by omega
          have hlI : ¬ (k : Int) < (n : Int) := by omega
          have HPK : Hid (P k = decide (t = 0)) := by show _ = _; rw [HP.out, HT.out]; exact part_none (by rw [HN.out]; exact hkn)
          by_cases h0 : t = 0
          · have HPT : Hid (P k = true) := HPK.out.trans (decide_eq_true h0)
            subst h0
            clear HPK
            go_wp2_with fail
            exact ⟨⟨k + 1, by omega, by go_num, fun j hj => by
              by_cases e : j = k
              · rw [e]; exact HPT.out
              · exact HA.out j (by omega), by first | trivial | rfl⟩, by simp [intOf]; omega⟩
          · have HPF : Hid (P k = false) := HPK.out.trans (decide_eq_false h0)
            have h1 : (t != 0) = true := by rw [bne_iff_ne]; exact h0
            clear HPK h0
            go_wp2_with fail
            go_ret
            exact ⟨by rw [HOFF.out k k3 HPF.out]; rfl, B2.out⟩
        · have hkn' : k < n := by omega
          have hknI : (k : Int) < (n : Int) := by omega
          have hlI : ¬ (n : Int) ≤ (k : Int) := by omega
          have hlen : k < hs.length := by rw [HN.out]; exact hkn'
          obtain ⟨x, hx⟩ : ∃ x : Nat, x = (hs.getD k 0).toNat := ⟨_, rfl⟩
          have I1 : ∀ w, (Instr.index 9 (.string S) (.int .i64 (k : Int))).run Tryd.prog w = .ok (.int .u8 (x : Int)) w := fun w => by
            have hk' : k < S.data.size := by have : S.data.size = n := HSZ; omega
            have hv : S.data[k] = hs.getD k 0 := by
              simp only [HSD.out]
              simp [List.getD, hlen]
            rw [run_index_string w 9 S .i64 k Tryd.underlying9, dif_pos ⟨by omega, by rw [HSZ]; exact hknI⟩]
            congr 1
            congr 1
            show ((S.data[k]).toNat : Int) = _
            rw [hv, hx]
          have HX := Lib.hid hx
          have HLEN := Lib.hid hlen
          clear hx hlen hkn
          by_cases h1 : x = 110
          · have C1 : hs.getD k 0 = 110 := UInt8.toNat_inj.1 (HX.out.symm.trans h1)
            have HPK : Hid (P k = decide (-2147483648 ≤ t ∧ t ≤ 2147483647)) := by show _ = _; rw [HP.out, HT.out]; exact part_num HLEN.out C1
            subst h1
            clear C1
            by_cases hr : -2147483648 ≤ t ∧ t ≤ 2147483647
            · have HPT : Hid (P k = true) := HPK.out.trans (decide_eq_true hr)
              clear HPK
              go_wp2_with fail
              refine (inRange_t _ _ hr.1 hr.2).mono ?_
              rintro e w' ⟨rfl, rfl⟩
              clear hr
              go_wp2_with fail
              exact ⟨⟨k + 1, by omega, by go_num, fun j hj => by
                by_cases e : j = k
                · rw [e]; exact HPT.out
                · exact HA.out j (by omega), by first | trivial | rfl⟩, by simp [intOf]; omega⟩
            · have HPF : Hid (P k = false) := HPK.out.trans (decide_eq_false hr)
              have HR := Lib.hid hr
              clear HPK hr
              go_wp2_with fail
              refine (inRange_f _ _ HR.out).mono ?_
              rintro e w' ⟨rfl, rfl⟩
              go_wp2_with fail
              go_ret
              exact ⟨by rw [HOFF.out k k3 HPF.out]; rfl, B2.out⟩
          · have g1 : ((x : Int) == 110) = false := by rw [beq_eq_false_iff_ne]; omega
            by_cases h2 : x = 112
            · have C1 : hs.getD k 0 = 112 := UInt8.toNat_inj.1 (HX.out.symm.trans h2)
              have HPK : Hid (P k = decide (0 ≤ t ∧ t < size)) := by show _ = _; rw [HP.out, HT.out]; exact part_place HLEN.out C1
              subst h2
              clear C1 h1 g1
              by_cases t0 : 0 ≤ t
              · by_cases t1 : t < size
                · have HPT : Hid (P k = true) := HPK.out.trans (decide_eq_true ⟨t0, t1⟩)
                  have t2 : ¬ size ≤ t := by omega
                  have t3 : ¬ t < 0 := by omega
                  clear HPK
                  go_wp2_with fail
                  exact ⟨⟨k + 1, by omega, by go_num, fun j hj => by
                    by_cases e : j = k
                    · rw [e]; exact HPT.out
                    · exact HA.out j (by omega), by first | trivial | rfl⟩, by simp [intOf]; omega⟩
                · have HPF : Hid (P k = false) := HPK.out.trans (decide_eq_false (fun h => t1 h.2))
                  have t2 : size ≤ t := by omega
                  have t3 : ¬ t < 0 := by omega
                  clear HPK
                  go_wp2_with fail
                  go_ret
                  exact ⟨by rw [HOFF.out k k3 HPF.out]; rfl, B2.out⟩
              · have HPF : Hid (P k = false) := HPK.out.trans (decide_eq_false (fun h => t0 h.1))
                have t3 : t < 0 := by omega
                clear HPK
                go_wp2_with fail
                go_ret
                exact ⟨by rw [HOFF.out k k3 HPF.out]; rfl, B2.out⟩
            · have g2 : ((x : Int) == 112) = false := by rw [beq_eq_false_iff_ne]; omega
              have HPK : Hid (P k = decide (0 ≤ t ∧ t < words)) := by
                show _ = _; rw [HP.out, HT.out]
                exact part_word HLEN.out (fun h => h1 (by rw [HX.out, h]; rfl)) (fun h => h2 (by rw [HX.out, h]; rfl))
              clear h1 h2
              by_cases t0 : 0 ≤ t
              · by_cases t1 : t < words
                · have HPT : Hid (P k = true) := HPK.out.trans (decide_eq_true ⟨t0, t1⟩)
                  have t2 : ¬ words ≤ t := by omega
                  have t3 : ¬ t < 0 := by omega
                  clear HPK
                  go_wp2_with fail
                  exact ⟨⟨k + 1, by omega, by go_num, fun j hj => by
                    by_cases e : j = k
                    · rw [e]; exact HPT.out
                    · exact HA.out j (by omega), by first | trivial | rfl⟩, by simp [intOf]; omega⟩
                · have HPF : Hid (P k = false) := HPK.out.trans (decide_eq_false (fun h => t1 h.2))
                  have t2 : words ≤ t := by omega
                  have t3 : ¬ t < 0 := by omega
                  clear HPK
                  go_wp2_with fail
                  go_ret
                  exact ⟨by rw [HOFF.out k k3 HPF.out]; rfl, B2.out⟩
              · have HPF : Hid (P k = false) := HPK.out.trans (decide_eq_false (fun h => t0 h.1))
                have t3 : t < 0 := by omega
                clear HPK
                go_wp2_with fail
                go_ret
                exact ⟨by rw [HOFF.out k k3 HPF.out]; rfl, B2.out⟩
      · obtain rfl : k = 3 := by omega
        have HV := Lib.hid (HON.out HA.out)
        clear HOFF HON HA
        obtain ⟨b0, b1, b2, b3⟩ := full4i B4.out
        by_cases e0 : m = 0
        · subst e0
          by_cases a0 : a = 0
          · subst a0
            go_wp2_with fail
            go_ret
            exact ⟨by rw [HV.out]; rfl, B2.out⟩
          · have ga : (a == 0) = false := by rw [beq_eq_false_iff_ne]; exact a0
            by_cases a1 : a = 1
            · subst a1
              go_wp2_with fail
              go_ret
              exact ⟨by rw [HV.out]; rfl, B2.out⟩
            · have gb : (a == 1) = false := by rw [beq_eq_false_iff_ne]; exact a1
              have HO : Hid (ownOk (0 : Nat) a b c = false) := by show decide (a = 0 ∨ a = 1) = false; exact decide_eq_false (by omega)
              clear a0 a1
              go_wp2_with fail
              go_ret
              exact ⟨by rw [HV.out, HO.out]; rfl, B2.out⟩
        · have q0 : ((m : Int) == 0) = false := by rw [beq_eq_false_iff_ne]; omega
          by_cases e17 : m = 17
          · subst e17
            have HO : Hid (ownOk (17 : Nat) a b c = decide (b ≤ c)) := rfl
            clear e0
            go_wp2_with fail
            go_ret
            exact ⟨by rw [HV.out, HO.out]; rfl, B2.out⟩
          · have q17 : ((m : Int) == 17) = false := by rw [beq_eq_false_iff_ne]; omega
            by_cases e18 : m = 18
            · subst e18
              have HO : Hid (ownOk (18 : Nat) a b c = decide (0 ≤ c)) := rfl
              clear e0 e17
              go_wp2_with fail
              go_ret
              exact ⟨by rw [HV.out, HO.out]; rfl, B2.out⟩
            · have q18 : ((m : Int) == 18) = false := by rw [beq_eq_false_iff_ne]; omega
              have HO : Hid (ownOk m a b c = true) := by show _ = _; unfold ownOk; rw [if_neg (by omega), if_neg (by omega), if_neg (by omega)]
              clear e0 e17 e18
              go_wp2_with fail
              go_ret
              exact ⟨by rw [HV.out, HO.out]; rfl, B2.out⟩
  · have HV : Hid (rightV o a b c size words = false) := right_un ho
    rw [HV.out]
    go_enter Tryd.func55, Tryd.ntmps55
    go_wp2_with fail
    refine (known_f _ o ho).mono ?_
    rintro e w' ⟨rfl, rfl⟩
    go_wp2_with fail
    go_ret
    exact ⟨rfl, ext_alloc w _⟩
#print axioms right_c
end Go.Proofs.YtbeileihbhooaaaDoor
