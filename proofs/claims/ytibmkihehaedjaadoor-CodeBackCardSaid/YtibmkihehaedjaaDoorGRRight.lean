/-
  code: may an instruction be: the document's contract.
-/
import Derived.Test.YtibmkihehaedjaaDoorGRight
namespace Go.Proofs.YtibmkihehaedjaaDoor
open Go.RowKit

theorem rnumber_t (w : World) (x : Int) (h1 : -2147483648 ≤ x) (h2 : x ≤ 2147483647) : Calls Tryd.prog 37 #[.int .i64 x] w (fun e w' => e = .returned (.bool true) ∧ w = w') := by
  go_enter Tryd.func37, Tryd.ntmps37
  go_wp2_with fail
  go_ret
  exact ⟨rfl, rfl⟩
theorem rnumber_f (w : World) (x : Int) (h : ¬ (-2147483648 ≤ x ∧ x ≤ 2147483647)) : Calls Tryd.prog 37 #[.int .i64 x] w (fun e w' => e = .returned (.bool false) ∧ w = w') := by
  by_cases h1 : -2147483648 ≤ x
  · have h2 : ¬ x ≤ 2147483647 := by omega
    clear h
    go_enter Tryd.func37, Tryd.ntmps37
    go_wp2_with fail
    go_ret
    exact ⟨rfl, rfl⟩
  · clear h
    go_enter Tryd.func37, Tryd.ntmps37
    go_wp2_with fail
    go_ret
    exact ⟨rfl, rfl⟩
/-- the document's letters of what an operation has -/
def rhasT : List (List UInt8) := [[110], [119, 110], [119, 119], [119, 119, 119], [119, 119, 119], [119, 119, 119], [119, 119, 119], [119, 119, 119], [119, 119, 119], [119, 119, 119], [119, 119, 119], [119, 119, 119], [119, 119, 119], [119, 119, 119], [119, 119], [119, 119, 119], [119, 119, 119], [119, 110, 110], [119, 119, 110], [112], [112, 119], [112, 119]]
def rhasB (o : Nat) : List UInt8 := rhasT.getD o []
def likeB (o k : Nat) : Bool := decide ((hasB o).length ≤ k) || (decide ((rhasB o).getD k 0 = 119) && !decide ((hasB o).getD k 0 = 110) && !decide ((hasB o).getD k 0 = 112)) || (decide ((rhasB o).getD k 0 = 112) && decide ((hasB o).getD k 0 = 112)) || (decide ((rhasB o).getD k 0 = 110) && decide ((hasB o).getD k 0 = 110))
theorem likeB_all : ∀ o, o < 22 → likeB o 0 = true ∧ likeB o 1 = true ∧ likeB o 2 = true := by decide
theorem rhas_len : ∀ o, o < 22 → (rhasB o).length = (hasB o).length ∧ (rhasB o).length ≤ 3 := by decide
theorem rhas_like (o : Nat) (ho : o < 22) (k : Nat) (hk : k < 3) (hl : k < (hasB o).length) : ((rhasB o).getD k 0 = 119 ∧ ¬ (hasB o).getD k 0 = 110 ∧ ¬ (hasB o).getD k 0 = 112) ∨ ((rhasB o).getD k 0 = 112 ∧ (hasB o).getD k 0 = 112) ∨ ((rhasB o).getD k 0 = 110 ∧ (hasB o).getD k 0 = 110) := by
  have h : likeB o k = true := by
    obtain ⟨h0, h1, h2⟩ := likeB_all o ho
    rcases (by omega : k = 0 ∨ k = 1 ∨ k = 2) with rfl | rfl | rfl
    · exact h0
    · exact h1
    · exact h2
  unfold likeB at h
  rw [decide_eq_false (by omega : ¬ (hasB o).length ≤ k)] at h
  simp only [Bool.false_or, Bool.or_eq_true, Bool.and_eq_true, decide_eq_true_eq, Bool.not_eq_true', decide_eq_false_iff_not] at h
  rcases h with (h | h) | h
  · exact .inl ⟨h.1.1, h.1.2, h.2⟩
  · exact .inr (.inl h)
  · exact .inr (.inr h)
theorem rhas_c (w : World) (o : Nat) (ho : o < 22) : Calls Tryd.prog 36 #[.int .i64 o] w (Gives (.string ⟨(rhasB o).toArray⟩) w) := by
  have hmI : ¬ (21 : Int) < (o : Int) := by omega
  have h22 : (o : Int) < 22 := by omega
  have hm0 : (0 : Int) ≤ (o : Int) := by omega
  have hm1 : ¬ (o : Int) < 0 := by omega
  obtain ⟨S, hS⟩ : ∃ S : ByteArray, S = ⟨(rhasB o).toArray⟩ := ⟨_, rfl⟩
  have HS := Lib.hid hS
  rw [← hS]
  clear hS
  go_enter Tryd.func36, Tryd.ntmps36
  obtain ⟨V, hV⟩ : ∃ V, V = World.alloc w (.cells #[.string ⟨#[110]⟩, .string ⟨#[119, 110]⟩, .string ⟨#[119, 119]⟩, .string ⟨#[119, 119, 119]⟩, .string ⟨#[119, 119, 119]⟩, .string ⟨#[119, 119, 119]⟩, .string ⟨#[119, 119, 119]⟩, .string ⟨#[119, 119, 119]⟩, .string ⟨#[119, 119, 119]⟩, .string ⟨#[119, 119, 119]⟩, .string ⟨#[119, 119, 119]⟩, .string ⟨#[119, 119, 119]⟩, .string ⟨#[119, 119, 119]⟩, .string ⟨#[119, 119, 119]⟩, .string ⟨#[119, 119]⟩, .string ⟨#[119, 119, 119]⟩, .string ⟨#[119, 119, 119]⟩, .string ⟨#[119, 110, 110]⟩, .string ⟨#[119, 119, 110]⟩, .string ⟨#[112]⟩, .string ⟨#[112, 119]⟩, .string ⟨#[112, 119]⟩] 9) := ⟨_, rfl⟩
  have BV : Hid (Below w.heap.size w V) := by rw [hV]; exact ext_alloc w _
  have cm : V.cell? ⟨w.heap.size, o, none⟩ = some (.string S) := by
    rw [hV, cell_of_row _ w.heap.size o _ _ (0, 0) (Go.heap_alloc_new w _), HS.out]
    rcases (by omega : o = 0 ∨ o = 1 ∨ o = 2 ∨ o = 3 ∨ o = 4 ∨ o = 5 ∨ o = 6 ∨ o = 7 ∨ o = 8 ∨ o = 9 ∨ o = 10 ∨ o = 11 ∨ o = 12 ∨ o = 13 ∨ o = 14 ∨ o = 15 ∨ o = 16 ∨ o = 17 ∨ o = 18 ∨ o = 19 ∨ o = 20 ∨ o = 21) with rfl | rfl | rfl | rfl | rfl | rfl | rfl | rfl | rfl | rfl | rfl | rfl | rfl | rfl | rfl | rfl | rfl | rfl | rfl | rfl | rfl | rfl <;> rfl
  rw [hV] at cm
  go_wp2_with fail
  go_ret
  rw [hV] at BV
  exact ⟨rfl, BV.out⟩

theorem own_no {o a b c : Int} (h : ¬ (o = 0 ∧ ¬ a = 0 ∧ ¬ a = 1)) (h2 : ¬ (o = 17 ∧ c < b)) (h3 : ¬ (o = 18 ∧ c < 0)) : ownOk o a b c = true := by
  unfold ownOk
  split
  · exact decide_eq_true (by omega)
  · split
    · exact decide_eq_true (by omega)
    · split
      · exact decide_eq_true (by omega)
      · rfl

set_option maxRecDepth 100000 in
set_option maxHeartbeats 4000000 in
theorem rright_c (w : World) (o a b c size words : Int) : Calls Tryd.prog 14 #[.agg #[.int .i64 o, .int .i64 a, .int .i64 b, .int .i64 c], .int .i64 size, .int .i64 words] w (Gives (.bool (rightV o a b c size words)) w) := by
  by_cases ho : 0 ≤ o ∧ o < 22
  · obtain ⟨m, rfl⟩ : ∃ m : Nat, o = (m : Int) := ⟨o.toNat, by omega⟩
    have hm : m < 22 := by omega
    have hmI : ¬ (21 : Int) < (m : Int) := by omega
    have hm0 : (0 : Int) ≤ (m : Int) := by omega
    have hm1 : ¬ (m : Int) < 0 := by omega
    have HOFF : Hid (∀ k, k < 3 → partOk (hasB m) (three a b c) size words k = false → rightV m a b c size words = false) := fun k hk h => right_off hk (by rw [Int.toNat_natCast]; exact h)
    have HON : Hid ((∀ k, k < 3 → partOk (hasB m) (three a b c) size words k = true) → rightV m a b c size words = ownOk m a b c) := fun h => right_on ho (by rw [Int.toNat_natCast]; exact h)
    obtain ⟨R, hR⟩ : ∃ R, R = rightV m a b c size words := ⟨_, rfl⟩
    rw [← hR] at HOFF HON ⊢
    clear hR
    obtain ⟨kl, kl3⟩ := rhas_len m hm
    have HK : Hid (∀ k, k < 3 → k < (hasB m).length → ((rhasB m).getD k 0 = 119 ∧ ¬ (hasB m).getD k 0 = 110 ∧ ¬ (hasB m).getD k 0 = 112) ∨ ((rhasB m).getD k 0 = 112 ∧ (hasB m).getD k 0 = 112) ∨ ((rhasB m).getD k 0 = 110 ∧ (hasB m).getD k 0 = 110)) := rhas_like m hm
    obtain ⟨hs, hhs⟩ : ∃ hs, hs = hasB m := ⟨_, rfl⟩
    obtain ⟨rs, hrs⟩ : ∃ rs, rs = rhasB m := ⟨_, rfl⟩
    obtain ⟨n, hn⟩ : ∃ n, n = rs.length := ⟨_, rfl⟩
    rw [← hhs, ← hrs] at HK kl
    rw [← hrs] at kl3
    have hn3 : n ≤ 3 := by omega
    have HSL : Hid (hs.length = n) := by show _ = _; omega
    have HRL : Hid (rs.length = n) := hn.symm
    obtain ⟨S, hS⟩ : ∃ S : ByteArray, S = ⟨rs.toArray⟩ := ⟨_, rfl⟩
    have HSD : Hid (S.data = rs.toArray) := by show _ = _; rw [hS]
    have HSZ : S.size = n := by rw [hS, hn]; rfl
    have HHAS : Hid (∀ w, Calls Tryd.prog 36 #[.int .i64 m] w (Gives (.string S) w)) := by
      intro w
      rw [hS, hrs]
      exact rhas_c w m hm
    rw [← hhs] at HOFF HON
    clear kl kl3 hhs hrs hn hS ho
    obtain ⟨P, hP⟩ : ∃ P : Nat → Bool, P = partOk hs (three a b c) size words := ⟨_, rfl⟩
    have HP := Lib.hid hP
    rw [← hP] at HOFF HON
    clear hP
    go_enter Tryd.func14, Tryd.ntmps14
    go_wp2_with fail
    refine (three_c _ _ _ _ _).mono ?_
    rintro e w2 ⟨rfl, hb⟩
    obtain ⟨g, hg⟩ : ∃ g, g = w.heap.size := ⟨_, rfl⟩
    have B4 : Hid (w2.heap[g]? = some (.cells #[.int .i64 m, .int .i64 a, .int .i64 b, .int .i64 c] 23 (0, 0))) := by rw [hg]; exact below_keep hb (by simp) (Go.heap_alloc_new w _)
    have B2 : Hid (Below w.heap.size w w2) := ext_trans (ext_alloc w _) hb
    rw [← hg]
    clear hb hg
    go_upto_region 4 with fail
    obtain ⟨q, hq⟩ : ∃ q, q = w2.heap.size := ⟨_, rfl⟩
    obtain ⟨U, hU⟩ : ∃ U, U = World.alloc w2 (.cells #[.int .i64 a, .int .i64 b, .int .i64 c] 70) := ⟨_, rfl⟩
    have B3 : Hid (U.heap[q]? = some (.cells #[.int .i64 a, .int .i64 b, .int .i64 c] 70 (0, 0))) := by rw [hU, hq]; exact Go.heap_alloc_new w2 _
    have BU : Hid (Below w2.heap.size w2 U) := by rw [hU]; exact ext_alloc w2 _
    replace B4 : Hid (U.heap[g]? = some (.cells #[.int .i64 m, .int .i64 a, .int .i64 b, .int .i64 c] 23 (0, 0))) := keepG BU.out B4.out
    replace B2 : Hid (Below w.heap.size w U) := ext_trans B2.out BU.out
    rw [← hU, ← hq]
    clear hU hq BU
    obtain ⟨b0, b1, b2, b3⟩ := full4i B4.out
    go_wp2_with fail
    clear b0 b1 b2 b3
    refine (HHAS.out _).mono ?_
    rintro e V ⟨rfl, hb⟩
    replace B4 := Lib.hid (keepG hb B4.out)
    replace B3 := Lib.hid (keepG hb B3.out)
    replace B2 := Lib.hid (ext_trans B2.out hb)
    clear hb HHAS
    go_wp2_with fail
    go_loopw [9] (fun iv wr => ∃ k : Nat, k ≤ 3 ∧ iv = .int .i64 k ∧ Hid (∀ j, j < k → P j = true) ∧ wr = V) (fun iv _ => 3 - (intOf iv).toNat)
    case atStart => exact ⟨0, Nat.zero_le _, rfl, (fun j hj => absurd hj (by omega)), rfl⟩
    case round =>
      obtain ⟨k, hk, rfl, HA, rfl⟩ := hrel
      by_cases k3 : k < 3
      · have k3I : (k : Int) < 3 := by omega
        have hkI : (0 : Int) ≤ (k : Int) := by omega
        have ct := three_at a b c k3 B3.out
        obtain ⟨t, ht⟩ : ∃ t : Int, t = three a b c k := ⟨_, rfl⟩
        rw [← ht] at ct
        have HT := Lib.hid ht
        clear ht
        by_cases hkn : n ≤ k
        · have hknI : (n : Int) ≤ (k : Int) := by omega
          have hlI : ¬ (k : Int) < (n : Int) := by omega
          have HPK : Hid (P k = decide (t = 0)) := by show _ = _; rw [HP.out, HT.out]; exact part_none (by rw [HSL.out]; exact hkn)
          by_cases h0 : t = 0
          · have HPT : Hid (P k = true) := HPK.out.trans (decide_eq_true h0)
            subst h0
            clear HPK
            go_wp2_with fail
            exact ⟨⟨k + 1, by omega, by go_num, fun j hj => by
              by_cases e : j = k
              · rw [e]; exact HPT.out
              · exact HA.out j (by omega), by first | trivial | rfl⟩, by simp [intOf]; omega⟩
          · have HPF : Hid (P k = false) := HPK.out.trans (decide_eq_false h0)
            have h1 : (t != 0) = true := by rw [bne_iff_ne]; exact h0
            clear HPK h0
            go_wp2_with fail
            go_ret
            exact ⟨by rw [HOFF.out k k3 HPF.out]; rfl, B2.out⟩
        · have hkn' : k < n := by omega
          have hknI : (k : Int) < (n : Int) := by omega
          have hlI : ¬ (n : Int) ≤ (k : Int) := by omega
          have hlen : k < hs.length := by rw [HSL.out]; exact hkn'
          obtain ⟨x, hx⟩ : ∃ x : Nat, x = (rs.getD k 0).toNat := ⟨_, rfl⟩
          have I1 : ∀ w, (Instr.index 9 (.string S) (.int .i64 (k : Int))).run Tryd.prog w = .ok (.int .u8 (x : Int)) w := fun w => by
            have hk' : k < S.data.size := by have : S.data.size = n := HSZ; omega
            have hl2 : k < rs.length := by rw [HRL.out]; exact hkn'
            have hv : S.data[k] = rs.getD k 0 := by
              simp only [HSD.out]
              simp [List.getD, hl2]
            rw [run_index_string w 9 S .i64 k Tryd.underlying9, dif_pos ⟨by omega, by rw [HSZ]; exact hknI⟩]
            congr 1
            congr 1
            show ((S.data[k]).toNat : Int) = _
            rw [hv, hx]
          have kk := HK.out k k3 hlen
          have HLEN := Lib.hid hlen
          rcases kk with ⟨q1, q2, q3⟩ | ⟨q1, q2⟩ | ⟨q1, q2⟩
          · have HPK : Hid (P k = decide (0 ≤ t ∧ t < words)) := by show _ = _; rw [HP.out, HT.out]; exact part_word HLEN.out q2 q3
            obtain rfl : x = 119 := by rw [hx, q1]; rfl
            clear hx q1 q2 q3 hkn hlen
            by_cases t0 : 0 ≤ t
            · by_cases t1 : t < words
              · have HPT : Hid (P k = true) := HPK.out.trans (decide_eq_true ⟨t0, t1⟩)
                have t2 : ¬ words ≤ t := by omega
                have t3 : ¬ t < 0 := by omega
                clear HPK
                go_wp2_with fail
                exact ⟨⟨k + 1, by omega, by go_num, fun j hj => by
                  by_cases e : j = k
                  · rw [e]; exact HPT.out
                  · exact HA.out j (by omega), by first | trivial | rfl⟩, by simp [intOf]; omega⟩
              · have HPF : Hid (P k = false) := HPK.out.trans (decide_eq_false (fun h => t1 h.2))
                have t2 : words ≤ t := by omega
                have t3 : ¬ t < 0 := by omega
                clear HPK
                go_wp2_with fail
                go_ret
                exact ⟨by rw [HOFF.out k k3 HPF.out]; rfl, B2.out⟩
            · have HPF : Hid (P k = false) := HPK.out.trans (decide_eq_false (fun h => t0 h.1))
              have t3 : t < 0 := by omega
              clear HPK
              go_wp2_with fail
              go_ret
              exact ⟨by rw [HOFF.out k k3 HPF.out]; rfl, B2.out⟩
          · have HPK : Hid (P k = decide (0 ≤ t ∧ t < size)) := by show _ = _; rw [HP.out, HT.out]; exact part_place HLEN.out q2
            obtain rfl : x = 112 := by rw [hx, q1]; rfl
            clear hx q1 q2 hkn hlen
            by_cases t0 : 0 ≤ t
            · by_cases t1 : t < size
              · have HPT : Hid (P k = true) := HPK.out.trans (decide_eq_true ⟨t0, t1⟩)
                have t2 : ¬ size ≤ t := by omega
                have t3 : ¬ t < 0 := by omega
                clear HPK
                go_wp2_with fail
                exact ⟨⟨k + 1, by omega, by go_num, fun j hj => by
                  by_cases e : j = k
                  · rw [e]; exact HPT.out
                  · exact HA.out j (by omega), by first | trivial | rfl⟩, by simp [intOf]; omega⟩
              · have HPF : Hid (P k = false) := HPK.out.trans (decide_eq_false (fun h => t1 h.2))
                have t2 : size ≤ t := by omega
                have t3 : ¬ t < 0 := by omega
                clear HPK
                go_wp2_with fail
                go_ret
                exact ⟨by rw [HOFF.out k k3 HPF.out]; rfl, B2.out⟩
            · have HPF : Hid (P k = false) := HPK.out.trans (decide_eq_false (fun h => t0 h.1))
              have t3 : t < 0 := by omega
              clear HPK
              go_wp2_with fail
              go_ret
              exact ⟨by rw [HOFF.out k k3 HPF.out]; rfl, B2.out⟩
          · have HPK : Hid (P k = decide (-2147483648 ≤ t ∧ t ≤ 2147483647)) := by show _ = _; rw [HP.out, HT.out]; exact part_num HLEN.out q2
            obtain rfl : x = 110 := by rw [hx, q1]; rfl
            clear hx q1 q2 hkn hlen
            by_cases hr : -2147483648 ≤ t ∧ t ≤ 2147483647
            · have HPT : Hid (P k = true) := HPK.out.trans (decide_eq_true hr)
              clear HPK
              go_wp2_with fail
              refine (rnumber_t _ _ hr.1 hr.2).mono ?_
              rintro e w' ⟨rfl, rfl⟩
              clear hr
              go_wp2_with fail
              exact ⟨⟨k + 1, by omega, by go_num, fun j hj => by
                by_cases e : j = k
                · rw [e]; exact HPT.out
                · exact HA.out j (by omega), by first | trivial | rfl⟩, by simp [intOf]; omega⟩
            · have HPF : Hid (P k = false) := HPK.out.trans (decide_eq_false hr)
              have HR := Lib.hid hr
              clear HPK hr
              go_wp2_with fail
              refine (rnumber_f _ _ HR.out).mono ?_
              rintro e w' ⟨rfl, rfl⟩
              go_wp2_with fail
              go_ret
              exact ⟨by rw [HOFF.out k k3 HPF.out]; rfl, B2.out⟩
      · obtain rfl : k = 3 := by omega
        have HV := Lib.hid (HON.out HA.out)
        clear HOFF HON HA
        obtain ⟨b0, b1, b2, b3⟩ := full4i B4.out
        by_cases e0 : m = 0
        · subst e0
          by_cases a0 : a = 0
          · subst a0
            go_wp2_with fail
            go_ret
            exact ⟨by rw [HV.out]; rfl, B2.out⟩
          · have ga : (a != 0) = true := by rw [bne_iff_ne]; exact a0
            by_cases a1 : a = 1
            · subst a1
              go_wp2_with fail
              go_ret
              exact ⟨by rw [HV.out]; rfl, B2.out⟩
            · have gb : (a != 1) = true := by rw [bne_iff_ne]; exact a1
              have HO : Hid (ownOk (0 : Nat) a b c = false) := by show decide (a = 0 ∨ a = 1) = false; exact decide_eq_false (by omega)
              clear a0 a1
              go_wp2_with fail
              go_ret
              exact ⟨by rw [HV.out, HO.out]; rfl, B2.out⟩
        · have q0 : ((m : Int) == 0) = false := by rw [beq_eq_false_iff_ne]; omega
          by_cases e17 : m = 17
          · subst e17
            have HO : Hid (ownOk (17 : Nat) a b c = decide (b ≤ c)) := rfl
            clear e0
            by_cases hbc : b ≤ c
            · have hcb : ¬ c < b := by omega
              have HD : Hid (decide (b ≤ c) = true) := decide_eq_true hbc
              go_wp2_with fail
              go_ret
              exact ⟨by rw [HV.out, HO.out, HD.out]; rfl, B2.out⟩
            · have hcb : c < b := by omega
              have HD : Hid (decide (b ≤ c) = false) := decide_eq_false hbc
              go_wp2_with fail
              go_ret
              exact ⟨by rw [HV.out, HO.out, HD.out]; rfl, B2.out⟩
          · have q17 : ((m : Int) == 17) = false := by rw [beq_eq_false_iff_ne]; omega
            by_cases e18 : m = 18
            · subst e18
              have HO : Hid (ownOk (18 : Nat) a b c = decide (0 ≤ c)) := rfl
              clear e0 e17
              by_cases hbc : 0 ≤ c
              · have hcb : ¬ c < 0 := by omega
                have HD : Hid (decide (0 ≤ c) = true) := decide_eq_true hbc
                go_wp2_with fail
                go_ret
                exact ⟨by rw [HV.out, HO.out, HD.out]; rfl, B2.out⟩
              · have hcb : c < 0 := by omega
                have HD : Hid (decide (0 ≤ c) = false) := decide_eq_false hbc
                go_wp2_with fail
                go_ret
                exact ⟨by rw [HV.out, HO.out, HD.out]; rfl, B2.out⟩
            · have q18 : ((m : Int) == 18) = false := by rw [beq_eq_false_iff_ne]; omega
              have HO : Hid (ownOk m a b c = true) := by show _ = _; unfold ownOk; rw [if_neg (by omega), if_neg (by omega), if_neg (by omega)]
              clear e0 e17 e18
              go_wp2_with fail
              go_ret
              exact ⟨by rw [HV.out, HO.out]; rfl, B2.out⟩
  · have HV : Hid (rightV o a b c size words = false) := right_un ho
    rw [HV.out]
    by_cases h1 : o < 0
    · go_enter Tryd.func14, Tryd.ntmps14
      go_wp2_with fail
      go_ret
      exact ⟨rfl, ext_alloc w _⟩
    · have h2 : 21 < o := by omega
      go_enter Tryd.func14, Tryd.ntmps14
      go_wp2_with fail
      go_ret
      exact ⟨rfl, ext_alloc w _⟩
#print axioms rright_c
end Go.Proofs.YtibmkihehaedjaaDoor
