/-
  HashStream: the walk.
-/
import Derived.Test.YtbiflklmkppnkaaHKnown
import Derived.Test.YtbiflklmkppnkaaHFrame
import Derived.Test.YtbiflklmkppnkaaHStrmR
namespace Go.Proofs.Ytbiflklmkppnkaa
open Go.ChangeShapes Go.WideShapes Go.ChangeAt Go.RowKit

theorem open_i16 {H : Type} {enc : TypeId × Value → H} {t : TypeId} (ht : Try.prog.underlying t = some (.int .i16)) {W : World} {base : Nat} {v : Value} {d : DataW H} {p : List MemPlace}
    (hv : Value.okWide Try.prog W .any base t v) (h : DataW.Trod enc Try.prog W 0 (fun _ => true) true t v d p) : ∃ m : Int, v = .int .i16 m ∧ -32768 ≤ m ∧ m < 32768 := by
  obtain ⟨k, rfl, rfl, rfl, hw⟩ := open_int ht hv h
  simp [Lit.wf, IntKind.min, IntKind.max, IntKind.signed, IntKind.bits] at hw
  exact ⟨k, rfl, by omega, by omega⟩

set_option maxRecDepth 100000 in
theorem same_c (w : World) (A : Option Addr) (n c : Nat) (bs : List UInt8) (h : Rd w A n c bs) (A2 : Option Addr) (n2 c2 : Nat) (bs2 : List UInt8) (h2 : Rd w A2 n2 c2 bs2) :
    Calls Try.prog 29 #[.slice A n c, .slice A2 n2 c2] w (fun e w' => e = .returned (.bool (bs == bs2)) ∧ w = w') := by
  have E1 := h.text (P := Try.prog) (t := 22) (t' := 9) Try.underlying22 Try.underlying5 Try.underlying9
  have E2 := h2.text (P := Try.prog) (t := 22) (t' := 9) Try.underlying22 Try.underlying5 Try.underlying9
  clear h h2
  go_enter Try.func29, Try.ntmps29
  go_wp2_with fail
  go_ret
  exact ⟨rfl, rfl⟩

theorem stream_pre {d n m : Nat} (h : n ≤ m) : (stream d m).take n = stream d n := by
  unfold stream
  rw [List.take_take, Nat.min_eq_left h]
  exact strm_take (by omega) (by omega)
theorem streamI_small {d : Nat} {K : Int} (h : K ≤ 1048576) : streamI d K = stream d K.toNat := by
  unfold streamI
  by_cases h1 : 1 ≤ K
  · rw [if_pos ⟨h1, h⟩]
  · rw [if_neg (fun h2 => h1 h2.1)]
    have : K.toNat = 0 := by omega
    rw [this]
    rfl

set_option maxRecDepth 100000 in
set_option maxHeartbeats 4000000 in
theorem walkHashStream (w : World) (d : Nat) (m n far : Int) (hd : d < 18446744073709551616) (_ : -32768 ≤ m) (_ : m < 32768) (_ : -32768 ≤ n) (_ : n < 32768) (_ : -9223372036854775808 ≤ far) (_ : far < 9223372036854775808) :
    Calls Try.prog 7 #[digV d, .int .i16 m, .int .i16 n, .int .i64 far] w (Holds w) := by
  obtain ⟨a, ha⟩ : ∃ a : Int, a = m.tmod 400 := ⟨_, rfl⟩
  obtain ⟨b, hb⟩ : ∃ b : Int, b = n.tmod 400 := ⟨_, rfl⟩
  have ra : -400 < a ∧ a < 400 := by rw [ha]; exact ⟨Int.lt_tmod_of_pos _ (by omega), Int.tmod_lt_of_pos _ (by omega)⟩
  have rb : -400 < b ∧ b < 400 := by rw [hb]; exact ⟨Int.lt_tmod_of_pos _ (by omega), Int.tmod_lt_of_pos _ (by omega)⟩
  have ea : m.tmod 400 = a := ha.symm
  have eb : n.tmod 400 = b := hb.symm
  obtain ⟨ra1, ra2⟩ := ra
  obtain ⟨rb1, rb2⟩ := rb
  obtain ⟨lo, hlo⟩ : ∃ x : Int, x = min a b := ⟨_, rfl⟩
  obtain ⟨hi, hhi⟩ : ∃ x : Int, x = max a b := ⟨_, rfl⟩
  have elo : (if b < a then b else a) = lo := by rw [hlo]; split <;> omega
  have ehi : (if a < b then b else a) = hi := by rw [hhi]; split <;> omega
  have rlo : lo ≤ 399 ∧ lo ≤ hi := by omega
  have rhi : hi ≤ 399 := by omega
  obtain ⟨LO, hLO⟩ : ∃ x, x = lo.toNat := ⟨_, rfl⟩
  obtain ⟨HI, hHI⟩ : ∃ x, x = hi.toNat := ⟨_, rfl⟩
  have e0 : (if hi < 0 then 0 else hi) = (HI : Int) := by rw [hHI]; split <;> omega
  have HL : LO ≤ HI := by omega
  have SL : Hid (streamI d lo = stream d LO) := by rw [hLO]; exact streamI_small (by omega)
  have SH : Hid (streamI d hi = stream d HI) := by rw [hHI]; exact streamI_small (by omega)
  have PR : Hid ((stream d HI).take LO = stream d LO) := stream_pre HL
  have q1 : ((HI : Int) == (HI : Int)) = true := by simp
  have q1' : ((HI : Int) != (HI : Int)) = false := by simp
  have q2 : decide ((HI : Int) < (LO : Int)) = false := by simp; omega
  clear ha hb hlo hhi hLO hHI rlo
  unfold digV
  go_enter Try.func7, Try.ntmps7
  go_wp2_with fail
  generalize hW : World.alloc (World.alloc w (.cells #[.int .u8 (byt d 0), .int .u8 (byt d 1), .int .u8 (byt d 2), .int .u8 (byt d 3), .int .u8 (byt d 4), .int .u8 (byt d 5), .int .u8 (byt d 6), .int .u8 (byt d 7)] 23)) (.cells #[.int .u8 (byt d 0), .int .u8 (byt d 1), .int .u8 (byt d 2), .int .u8 (byt d 3), .int .u8 (byt d 4), .int .u8 (byt d 5), .int .u8 (byt d 6), .int .u8 (byt d 7)] 25) = W
  have D : Hid (W.heap[w.heap.size]? = some (.cells #[.int .u8 (byt d 0), .int .u8 (byt d 1), .int .u8 (byt d 2), .int .u8 (byt d 3), .int .u8 (byt d 4), .int .u8 (byt d 5), .int .u8 (byt d 6), .int .u8 (byt d 7)] 23 (0, 0))) := by rw [← hW]; exact keepA (Go.heap_alloc_new w _)
  have R : Hid (W.heap[w.heap.size + 1]? = some (.cells #[.int .u8 (byt d 0), .int .u8 (byt d 1), .int .u8 (byt d 2), .int .u8 (byt d 3), .int .u8 (byt d 4), .int .u8 (byt d 5), .int .u8 (byt d 6), .int .u8 (byt d 7)] 25 (0, 0))) := by rw [← hW]; exact heap_alloc_newest (w := World.alloc _ _) (by simp)
  have B0 : Hid (Below w.heap.size w W) := by rw [← hW]; exact ext_trans (ext_alloc _ _) (ext_alloc _ _)
  clear hW
  refine wp_region_schedC (fun v => Below W.heap.size W v) [(true, 0), (true, 1), (true, 2), (true, 3), (true, 5), (true, 6), (true, 7), (true, 8), (false, 4), (false, 9), (true, 10), (true, 11)] (by kernel_rfl) rfl (by kernel_rfl) (by kernel_rfl) (fun _ _ d _ _ h => by cases d <;> exact h) (ext_drew W) ?_
  intro J0 hJ0
  iterate 8 (refine schedC_pure (v := ?_) rfl (by rfl) ?_ ?_; rotate_left; (focus (intro v hC; obtain ⟨ d0, d1, d2, d3, d4, d5, d6, d7, _, _, _, _, _, _, _, _⟩ := full8 (keepB hC D.out); obtain ⟨ r0, r1, r2, r3, r4, r5, r6, r7, _, _, _, _, _, _, _, _⟩ := full8 (keepB hC R.out); go_simp; try with_reducible rfl)); try go_simp)
  refine schedC_eff rfl ?_
  intro J hJ
  go_wp2_with fail
  refine (stream_c _ d hd lo).mono ?_
  rw [SL.out]
  rintro e w1 ⟨AS, nS, cS, rfl, ho, hb⟩
  have B : Hid (Below W.heap.size W w1) := Lib.hid (ext_trans (ext_drew W) hb)
  have RAS := Lib.hid ho.rd
  obtain rfl : LO = nS := by rw [← ho.len, stream_len]
  clear hb ho
  go_wp2_with fail
  refine ⟨B.out, ?_⟩
  refine schedC_eff rfl ?_
  intro J hJ
  go_wp2_with fail
  refine (stream_c _ d hd hi).mono ?_
  rw [SH.out]
  rintro e w2 ⟨AL, nL, cL, rfl, ho, hb⟩
  replace B : Hid (Below W.heap.size W w2) := Lib.hid (ext_trans B.out hb)
  have RAL := Lib.hid ho.rd
  obtain rfl : HI = nL := by rw [← ho.len, stream_len]
  have RAS := Lib.hid (RAS.out.ext hb)
  clear hb ho
  go_wp2_with fail
  refine ⟨B.out, ?_⟩
  iterate 2 (refine schedC_pure (v := ?_) rfl (by rfl) ?_ ?_; rotate_left; (focus (intro v hC; obtain ⟨ d0, d1, d2, d3, d4, d5, d6, d7, _, _, _, _, _, _, _, _⟩ := full8 (keepB hC D.out); obtain ⟨ r0, r1, r2, r3, r4, r5, r6, r7, _, _, _, _, _, _, _, _⟩ := full8 (keepB hC R.out); go_simp; try with_reducible rfl)); try go_simp)
  refine schedC_nil (hJ0 _ _ ?_)
  clear hJ0
  replace D := Lib.hid (keepB B.out D.out)
  replace R := Lib.hid (keepB B.out R.out)
  replace B0 := Lib.hid (ext_trans B0.out B.out)
  clear B
  have lS := RAS.out.le
  have lL := RAL.out.le
  have mS := RAS.out.max
  have mL := RAL.out.max
  go_wp2_with fail
  refine wp_region_schedC (fun v => Below w2.heap.size w2 v) [(false, 0), (true, 1), (true, 2), (true, 3), (true, 4), (true, 6), (true, 7), (false, 5), (false, 8), (false, 9), (true, 10), (true, 11), (true, 12), (true, 13), (true, 14), (true, 15), (true, 16), (true, 17), (true, 18), (true, 19), (true, 20), (true, 21), (true, 22), (true, 23), (true, 24), (true, 25), (true, 26), (true, 27), (true, 28), (true, 29), (true, 30), (true, 31), (true, 32), (false, 33), (true, 34), (true, 35)] (by kernel_rfl) rfl (by kernel_rfl) (by kernel_rfl) (fun _ _ d _ _ h => by cases d <;> exact h) (ext_drew w2) ?_
  intro J0 hJ0
  refine schedC_eff rfl ?_
  intro J hJ
  go_wp2_with fail
  refine (known_c _).mono ?_
  try unfold digV
  rintro e w3 ⟨rfl, hb⟩
  have B : Hid (Below w2.heap.size w2 w3) := Lib.hid (ext_trans (ext_drew w2) hb)
  clear hb
  go_wp2_with fail
  refine ⟨B.out, ?_⟩
  iterate 6 (refine schedC_pure (v := ?_) rfl (by rfl) ?_ ?_; rotate_left; (focus (intro v hC; obtain ⟨ d0, d1, d2, d3, d4, d5, d6, d7, _, _, _, _, _, _, _, _⟩ := full8 (keepB hC D.out); obtain ⟨ r0, r1, r2, r3, r4, r5, r6, r7, _, _, _, _, _, _, _, _⟩ := full8 (keepB hC R.out); go_simp; try with_reducible rfl)); try go_simp)
  refine schedC_eff rfl ?_
  intro J hJ
  go_wp2_with fail
  refine (stream_c _ d hd a).mono ?_
  rw [streamI_small (d := d) (K := a) (by omega)]
  rintro e w4 ⟨A3, n3, c3, rfl, ho, hb⟩
  replace B : Hid (Below w2.heap.size w2 w4) := Lib.hid (ext_trans B.out hb)
  have RA3 := Lib.hid ho.rd
  clear hb ho
  go_wp2_with fail
  refine ⟨B.out, ?_⟩
  refine schedC_eff rfl ?_
  intro J hJ
  go_wp2_with fail
  refine (rstream_c _ d hd a).mono ?_
  rw [streamI_small (d := d) (K := a) (by omega)]
  rintro e w5 ⟨A4, n4, c4, rfl, ho, hb⟩
  replace B : Hid (Below w2.heap.size w2 w5) := Lib.hid (ext_trans B.out hb)
  have RA4 := Lib.hid ho.rd
  have RA3 := Lib.hid (RA3.out.ext hb)
  clear hb ho
  go_wp2_with fail
  refine ⟨B.out, ?_⟩
  refine schedC_eff rfl ?_
  intro J hJ
  go_wp2_with fail
  refine (same_c _ _ _ _ _ RA3.out _ _ _ _ RA4.out).mono ?_
  rw [beq_self_eq_true]
  rintro e v ⟨rfl, rfl⟩
  replace B : Hid (Below w2.heap.size w2 w5) := B
  go_wp2_with fail
  refine ⟨B.out, ?_⟩
  iterate 8 (refine schedC_pure (v := ?_) rfl (by rfl) ?_ ?_; rotate_left; (focus (intro v hC; obtain ⟨ d0, d1, d2, d3, d4, d5, d6, d7, _, _, _, _, _, _, _, _⟩ := full8 (keepB hC D.out); obtain ⟨ r0, r1, r2, r3, r4, r5, r6, r7, _, _, _, _, _, _, _, _⟩ := full8 (keepB hC R.out); go_simp; try with_reducible rfl)); try go_simp)
  refine schedC_pure (v := .bool false) rfl (by rfl) (fun v hC => ?_) ?_
  · go_simp
  try go_simp
  iterate 6 (refine schedC_pure (v := ?_) rfl (by rfl) ?_ ?_; rotate_left; (focus (intro v hC; obtain ⟨ d0, d1, d2, d3, d4, d5, d6, d7, _, _, _, _, _, _, _, _⟩ := full8 (keepB hC D.out); obtain ⟨ r0, r1, r2, r3, r4, r5, r6, r7, _, _, _, _, _, _, _, _⟩ := full8 (keepB hC R.out); go_simp; try with_reducible rfl)); try go_simp)
  refine schedC_pure (v := .bool false) rfl (by rfl) (fun v hC => ?_) ?_
  · go_simp
  try go_simp
  iterate 6 (refine schedC_pure (v := ?_) rfl (by rfl) ?_ ?_; rotate_left; (focus (intro v hC; obtain ⟨ d0, d1, d2, d3, d4, d5, d6, d7, _, _, _, _, _, _, _, _⟩ := full8 (keepB hC D.out); obtain ⟨ r0, r1, r2, r3, r4, r5, r6, r7, _, _, _, _, _, _, _, _⟩ := full8 (keepB hC R.out); go_simp; try with_reducible rfl)); try go_simp)
  refine schedC_pure (v := .slice AL LO cL) rfl (by rfl) (fun v hC => ?_) ?_
  · go_simp
    intro hlt
    omega
  try go_simp
  refine schedC_eff rfl ?_
  intro J hJ
  go_wp2_with fail
  refine (same_c _ _ _ _ _ (RAS.out.ext B.out) _ _ _ _ ((RAL.out.front HL).ext B.out)).mono ?_
  rw [PR.out, beq_self_eq_true]
  rintro e v ⟨rfl, rfl⟩
  replace B : Hid (Below w2.heap.size w2 w5) := B
  go_wp2_with fail
  refine ⟨B.out, ?_⟩
  iterate 2 (refine schedC_pure (v := ?_) rfl (by rfl) ?_ ?_; rotate_left; (focus (intro v hC; obtain ⟨ d0, d1, d2, d3, d4, d5, d6, d7, _, _, _, _, _, _, _, _⟩ := full8 (keepB hC D.out); obtain ⟨ r0, r1, r2, r3, r4, r5, r6, r7, _, _, _, _, _, _, _, _⟩ := full8 (keepB hC R.out); go_simp; try with_reducible rfl)); try go_simp)
  refine schedC_nil (hJ0 _ _ ?_)
  clear hJ0
  replace R := Lib.hid (keepB B.out R.out)
  replace B0 := Lib.hid (ext_trans B0.out B.out)
  clear B
  obtain ⟨d0, d1, d2, d3, d4, d5, d6, d7, _, _, _, _, _, _, _, _⟩ := full8 R.out
  by_cases hf : 1 ≤ far ∧ far ≤ 1048576
  · obtain ⟨f1, f2⟩ := hf
    have p1 : decide (1 ≤ far) = true := by simpa using f1
    have p2 : decide (far ≤ 1048576) = true := by simpa using f2
    go_wp2_with fail
    go_ret
    exact ⟨rfl, B0.out⟩
  · have HF : Hid (streamI d far = []) := if_neg hf
    by_cases f1 : 1 ≤ far
    · have f2 : ¬ far ≤ 1048576 := by omega
      have p1 : decide (1 ≤ far) = true := by simpa using f1
      have p2 : decide (far ≤ 1048576) = false := by simpa using f2
      clear hf
      go_wp2_with fail
      refine (stream_c _ d hd far).mono ?_
      rw [HF.out]
      rintro e w7 ⟨A7, n7, c7, rfl, ho, hb⟩
      obtain rfl : n7 = 0 := ho.len.symm
      go_wp2_with fail
      go_ret
      exact ⟨rfl, ext_trans B0.out hb⟩
    · have p1 : decide (1 ≤ far) = false := by simpa using f1
      clear hf
      go_wp2_with fail
      refine (stream_c _ d hd far).mono ?_
      rw [HF.out]
      rintro e w7 ⟨A7, n7, c7, rfl, ho, hb⟩
      obtain rfl : n7 = 0 := ho.len.symm
      go_wp2_with fail
      go_ret
      exact ⟨rfl, ext_trans B0.out hb⟩
#print axioms walkHashStream
end Go.Proofs.Ytbiflklmkppnkaa
