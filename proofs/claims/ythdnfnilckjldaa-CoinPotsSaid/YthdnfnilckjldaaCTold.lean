/-
  coin: told: the examples hold.
-/
import Derived.Test.YthdnfnilckjldaaCPays
namespace Go.Proofs.Ythdnfnilckjldaa
open Go.RowKit

theorem RdI.lit {w : World} {E : TypeId} {n : Nat} {xs : List Int} {vs : Array Value} (hn : xs.length = n) (hv : vs.toList = I64 xs) (hs : n ≤ 9223372036854775807) : RdI (w.alloc (.cells vs E)) (some ⟨w.heap.size, 0, none⟩) n n xs :=
  ⟨hn, Nat.le_refl _, hs, fun _ => ⟨w.heap.size, 0, rfl, by simp, fun j hj => by
    rw [cell_of_row _ w.heap.size (0 + j) vs E (0, 0) (Go.heap_alloc_new w _), ← Array.getElem?_toList, hv, Nat.zero_add]
    exact I64_getD (by omega)⟩, fun h => by cases h⟩

set_option maxRecDepth 100000 in
set_option maxHeartbeats 1000000 in
theorem told_c (w : World) : Calls Try.prog 11 #[] w (fun e w' => e = .returned (.bool true) ∧ Below w.heap.size w w') := by
  have P1 : Hid (parts 10 3 [1, 1, 1] = [4, 3, 3]) := by show parts 10 3 [1, 1, 1] = [4, 3, 3]; decide +kernel
  have P2 : Hid (parts 7 3 [0, 2, 1] = [0, 5, 2]) := by show parts 7 3 [0, 2, 1] = [0, 5, 2]; decide +kernel
  go_enter Try.func11, Try.ntmps11
  go_wp2_with fail
  have R1 : Hid (RdI (w.alloc (.cells #[.int .i64 1, .int .i64 1, .int .i64 1] 3)) (some ⟨w.heap.size, 0, none⟩) 3 3 [1, 1, 1]) := RdI.lit rfl rfl (by omega)
  refine (split_ok _ 10 _ 3 _ [1, 1, 1] R1 (by show Amt 10; unfold Amt; omega) 3 (by show weigh _ = _; decide +kernel)).mono ?_
  rw [P1.out]
  rintro e w1 ⟨A1, c1, rfl, ho, hb⟩
  have O1 := Lib.hid ho
  have B1 := Lib.hid ((ext_alloc w _).trans (hb.mono (ext_alloc w _).size))
  clear ho hb R1
  go_wp2_with fail
  have R2 : Hid (RdI (w1.alloc (.cells #[.int .i64 0, .int .i64 2, .int .i64 1] 3)) (some ⟨w1.heap.size, 0, none⟩) 3 3 [0, 2, 1]) := RdI.lit rfl rfl (by omega)
  refine (split_ok _ 7 _ 3 _ [0, 2, 1] R2 (by show Amt 7; unfold Amt; omega) 3 (by show weigh _ = _; decide +kernel)).mono ?_
  rw [P2.out]
  rintro e w2 ⟨A2, c2, rfl, ho, hb⟩
  have O2 := Lib.hid ho
  have B2 := Lib.hid ((ext_alloc w1 (.cells #[.int .i64 0, .int .i64 2, .int .i64 1] 3)).trans (hb.mono (ext_alloc w1 _).size))
  clear ho hb R2
  go_wp2_with fail
  have R3 : Hid (RdI (w2.alloc (.cells #[.int .i64 4, .int .i64 3, .int .i64 3] 3)) (some ⟨w2.heap.size, 0, none⟩) 3 3 [4, 3, 3]) := RdI.lit rfl rfl (by omega)
  refine (alike_yes _ _ _ _ _ (O1.out.rd.ext (ext_trans B2.out (ext_alloc _ _))) _ _ R3.out).mono ?_
  rintro e w3 ⟨rfl, hb⟩
  have B3 := Lib.hid (ext_trans (ext_alloc w2 (.cells #[.int .i64 4, .int .i64 3, .int .i64 3] 3)) hb)
  clear hb R3
  go_wp2_with fail
  have R4 : Hid (RdI (w3.alloc (.cells #[.int .i64 0, .int .i64 5, .int .i64 2] 3)) (some ⟨w3.heap.size, 0, none⟩) 3 3 [0, 5, 2]) := RdI.lit rfl rfl (by omega)
  refine (alike_yes _ _ _ _ _ (O2.out.rd.ext (ext_trans B3.out (ext_alloc _ _))) _ _ R4.out).mono ?_
  rintro e w4 ⟨rfl, hb⟩
  have B4 := Lib.hid (ext_trans B1.out (ext_trans B2.out (ext_trans B3.out (ext_trans (ext_alloc w3 _) hb))))
  clear hb R4 O1 O2 B1 B2 B3
  go_wp2_with fail
  refine (newPot_ok _ 10 2 (by show Amt 10; unfold Amt; omega) (by omega) (by omega)).mono ?_
  rintro e w5 ⟨b, rfl, hp, hbs, hb⟩
  have Q5 := Lib.hid hp
  have HB5 := Lib.hid (show w.heap.size ≤ b from Nat.le_trans B4.out.size hbs)
  have B5 := Lib.hid (ext_trans B4.out hb)
  clear hp hbs hb B4
  go_wp2_with fail
  refine (pay_c _ _ _ _ _ Q5.out 1 7).mono ?_
  rw [show seatAt 1 2 = 1 from rfl, show min (max (7 : Int) 0) 10 = 7 from rfl]
  rintro e w6 ⟨rfl, hp, hg⟩
  have Q6 := Lib.hid hp
  have B6 := Lib.hid (below_grown B5.out B5.out.size hg (fun k hk => by injection hk with hk; rw [← hk]; exact HB5.out))
  clear hp hg Q5 B5
  go_wp2_with fail
  refine (pay_c _ _ _ _ _ Q6.out 5 9).mono ?_
  rw [show seatAt 5 2 = 0 from rfl, show min (max (9 : Int) 0) (10 - 7) = 3 from rfl]
  rintro e w7 ⟨rfl, hp, hg⟩
  have Q7 := Lib.hid hp
  have B7 := Lib.hid (below_grown B6.out B6.out.size hg (fun k hk => by injection hk with hk; rw [← hk]; exact HB5.out))
  clear hp hg Q6 B6
  go_wp2_with fail
  refine (rest_c _ _ _ _ _ Q7 1).mono ?_
  rw [show seatAt 1 2 = 1 from rfl]
  rintro e w8 ⟨A, c, rfl, _, ho, hg⟩
  have O8 := Lib.hid ho
  have B8 := Lib.hid (below_grown B7.out B7.out.size hg (fun k hk => by injection hk with hk; rw [← hk]; exact HB5.out))
  clear ho hg Q7 B7
  go_wp2_with fail
  have R5 : Hid (RdI (w8.alloc (.cells #[.int .i64 3, .int .i64 7] 3)) (some ⟨w8.heap.size, 0, none⟩) 2 2 [3, 7]) := RdI.lit rfl rfl (by omega)
  refine (alike_yes _ _ 2 _ [3, 7] (O8.out.rd.ext (ext_alloc _ _)) _ _ R5.out).mono ?_
  rintro e w9 ⟨rfl, hb⟩
  have B9 := Lib.hid (ext_trans B8.out (ext_trans (ext_alloc w8 _) hb))
  clear hb R5 B8
  go_wp2_with fail
  go_ret
  exact ⟨rfl, B9.out⟩
#print axioms told_c
end Go.Proofs.Ythdnfnilckjldaa
