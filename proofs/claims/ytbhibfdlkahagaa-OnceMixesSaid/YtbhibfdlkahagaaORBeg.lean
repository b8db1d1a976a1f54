/-
  once: the document's Begin: contract; a digest appended to a row of the document's.
-/
import Derived.Test.YtbhibfdlkahagaaORDig
import Derived.Test.YtbhibfdlkahagaaOBegin
import Derived.Test.YtbhibfdlkahagaaHDigR
import Derived.Test.YtbhibfdlkahagaaHDigs
namespace Go.Proofs.Ytbhibfdlkahagaa
open Go.RowKit

set_option maxRecDepth 100000 in
set_option maxHeartbeats 1000000 in
theorem rbegin_c (w : World) (s k : Nat) (hs : s < 18446744073709551616) (hk : k < 18) : Calls Try.prog 62 #[digV s, .int .i64 k] w (Hands (digV (begN s k)) w) := by
  have Lk : k < 18446744073709551616 := by omega
  obtain ⟨x, hx⟩ : ∃ x, x = begN s k := ⟨_, rfl⟩
  have HX : Hid (twoN s k = x) := hx.symm
  rw [← hx]
  clear hx
  unfold digV
  go_enter Try.func62, Try.ntmps62
  go_wp2_with fail
  generalize hW : World.alloc (World.alloc w (.cells #[.int .u8 (byt s 0), .int .u8 (byt s 1), .int .u8 (byt s 2), .int .u8 (byt s 3), .int .u8 (byt s 4), .int .u8 (byt s 5), .int .u8 (byt s 6), .int .u8 (byt s 7)] 30)) (.cells #[.int .u8 0, .int .u8 0, .int .u8 0, .int .u8 0, .int .u8 0, .int .u8 0, .int .u8 0, .int .u8 0] 30) = W
  have D : Hid (W.heap[w.heap.size]? = some (.cells #[.int .u8 (byt s 0), .int .u8 (byt s 1), .int .u8 (byt s 2), .int .u8 (byt s 3), .int .u8 (byt s 4), .int .u8 (byt s 5), .int .u8 (byt s 6), .int .u8 (byt s 7)] 30 (0, 0))) := by rw [← hW]; exact keepA (Go.heap_alloc_new w _)
  have R : Hid (W.heap[w.heap.size + 1]? = some (.cells #[.int .u8 0, .int .u8 0, .int .u8 0, .int .u8 0, .int .u8 0, .int .u8 0, .int .u8 0, .int .u8 0] 30 (0, 0))) := by rw [← hW]; exact heap_alloc_newest (w := World.alloc _ _) (by simp)
  have B : Hid (Below w.heap.size w W) := by rw [← hW]; exact ext_trans (ext_alloc _ _) (ext_alloc _ _)
  clear hW
  refine wp_region_schedF (fin := 5) (fun v => Below W.heap.size W v) [(true, 0), (true, 1), (true, 2), (false, 3), (false, 4), (false, 5)] (by kernel_rfl) rfl (by kernel_rfl) (by kernel_rfl) (by kernel_rfl) (fun _ _ d _ _ h => by cases d <;> exact h) (ext_drew W) ?_
  intro J0 hJ0
  iterate 3 (refine schedF_pure (v := ?_) rfl (by rfl) ?_ ?_; rotate_left; (focus (intro v hC; obtain ⟨d0, d1, d2, d3, d4, d5, d6, d7, _, _, _, _, _, _, _, _⟩ := full8 (keepB hC D.out); go_simp; try with_reducible rfl)); try go_simp)
  refine schedF_eff rfl ?_
  intro J hJ
  go_wp2_with fail
  refine (rfromNum_c _ k Lk).mono ?_
  try unfold digV
  rintro e w1 ⟨rfl, hb⟩
  have CC : Hid (Below W.heap.size W w1) := Lib.hid (ext_trans (ext_drew W) hb)
  clear hb
  go_wp2_with fail
  refine ⟨fun _ => CC.out, ?_⟩
  refine schedF_eff rfl ?_
  intro J hJ
  go_wp2_with fail
  refine (rtwo_c _ s k hs Lk).mono ?_
  rw [HX.out]
  unfold digV
  rintro e w2 ⟨rfl, hb⟩
  replace CC : Hid (Below W.heap.size W w2) := Lib.hid (ext_trans CC.out hb)
  clear hb
  go_wp2_with fail
  refine ⟨fun _ => CC.out, ?_⟩
  replace R := Lib.hid (keepB CC.out R.out)
  replace B := Lib.hid (ext_trans B.out CC.out)
  obtain ⟨q0, q1, q2, q3, q4, q5, q6, q7, f0, f1, f2, f3, f4, f5, f6, f7⟩ := full8 R.out
  refine schedF_eff rfl ?_
  intro J hJ
  go_wp2_with fail
  refine ⟨fun h => absurd rfl h, ?_⟩
  refine schedF_nil (hJ0 _ _ ?_)
  go_wp2_with fail
  obtain ⟨g0, g1, g2, g3, g4, g5, g6, g7⟩ := put8 R.out (.int .u8 (byt x 0)) (.int .u8 (byt x 1)) (.int .u8 (byt x 2)) (.int .u8 (byt x 3)) (.int .u8 (byt x 4)) (.int .u8 (byt x 5)) (.int .u8 (byt x 6)) (.int .u8 (byt x 7))
  refine bodyPost_ret (v := digV x) (by unfold digV; simp only [results, Try.results62]; simp [go_sem, g0, g1, g2, g3, g4, g5, g6, g7]) rfl ⟨by unfold digV; rfl, bel8 B.out (Nat.le_refl _) (by omega) _ _ _ _ _ _ _ _⟩
#print axioms rbegin_c

theorem infoR8 : (Try.prog.info? 30).map (fun i => (i.zero, i.size, i.bytes)) = some (some (.agg #[.int .u8 0, .int .u8 0, .int .u8 0, .int .u8 0, .int .u8 0, .int .u8 0, .int .u8 0, .int .u8 0]), 8, 8) := by kernel_rfl

theorem wpList_pushR {w : World} {ops : Array Oper} {rest : List Oper} {o : Oper} {a : Act} {Q : Exit → Act → World → Prop} (hgd : o.guard = none) (s x : Operand)
    (ho : o.op = .call { callee := .builtin .append, args := #[s, x], argTypes := #[84, 84] })
    (B : Nat) (A : Option Addr) (n c : Nat) (xs : List Nat) (hs : a.eval s = .slice A n c) (hown : OwnD w 30 B A n c xs) (y : Nat) (hy : y < 18446744073709551616)
    (hx : a.eval x = .slice (some ⟨w.heap.size, 0, none⟩) 1 1) (hn : n < 1000000000) (hB : B ≤ w.heap.size)
    (h : ∀ A' c' w', OwnD w' 30 B A' (n + 1) c' (xs ++ [y]) → Below B w w' → wpList Try.prog ops Q rest (a.put o.dst (.slice A' (n + 1) c')) w') :
    wpList Try.prog ops Q (o :: rest) a (w.alloc (.cells #[.int .u8 (byt y 0), .int .u8 (byt y 1), .int .u8 (byt y 2), .int .u8 (byt y 3), .int .u8 (byt y 4), .int .u8 (byt y 5), .int .u8 (byt y 6), .int .u8 (byt y 7)] 30)) := by
  obtain ⟨i0, hi, hz0, hz1, hz2⟩ := info_parts infoR8
  refine wpList_append_own _ hgd s x 84 ho B 30 i0 _ 8 8 Try.underlying84 hi hz0 hz1 hz2 rfl (by omega) _ n (DD xs) hs (hown.row.alloc _) ⟨w.heap.size, 0, none⟩ 1 1 (DD [y]) hx (DD_length [y]) (fun j u hu => ?_) (DD_one _) (by simp only [maxLen]; omega) (by omega) (by simp; omega) ?_
  · rw [Addr.add_lit]
    have e := cell_of_row (w.alloc (.cells (digA y) 30)) w.heap.size (0 + j) (digA y) _ _ (Go.heap_alloc_new w _)
    have e2 : (w.alloc (.cells (digA y) 30)).cell? ⟨w.heap.size, 0 + j, none⟩ = some u := by
      rw [e, Nat.zero_add, ← Array.getElem?_toList]
      simpa [DD] using hu
    exact e2
  · intro v' w' ho' hg' _
    have hb := Below.grown ((Below.refl B w).alloc hB (.cells #[.int .u8 (byt y 0), .int .u8 (byt y 1), .int .u8 (byt y 2), .int .u8 (byt y 3), .int .u8 (byt y 4), .int .u8 (byt y 5), .int .u8 (byt y 6), .int .u8 (byt y 7)] 30)) hg' (by simp; omega) (fun k hk => (hown.row.lt k hk).1)
    rcases ho'.2 with ⟨rfl, h0⟩ | ⟨g, cap, cur, rfl, _⟩
    · omega
    · exact h _ _ w' ⟨by rw [List.length_append, hown.len]; rfl, by rw [DD_append]; exact ho', fun z hz => by
        rcases List.mem_append.1 hz with hz | hz
        · exact hown.small z hz
        · simp at hz; rw [hz]; exact hy⟩ hb

#print axioms wpList_pushR
end Go.Proofs.Ytbhibfdlkahagaa
