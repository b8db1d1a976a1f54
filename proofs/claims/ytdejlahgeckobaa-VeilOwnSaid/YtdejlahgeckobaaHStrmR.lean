/-
  hash: the document's Stream: the contract.
-/
import Derived.Test.YtdejlahgeckobaaHStrm
import Derived.Test.YtdejlahgeckobaaHManyR
import Derived.Test.YtdejlahgeckobaaSchedT
import Derived.Deep.DeepCutAuto
namespace Go.Proofs.Ytdejlahgeckobaa
open Go.RowKit

theorem Own.keptNe {w w' : World} {E : TypeId} {B : Nat} {A : Option Addr} {n c : Nat} {bs : List UInt8} (h : Own w E B A n c bs) {k : Nat} (hk : w.grownBy w' (some k)) (hne : ∀ g, (Value.slice A n c).ownBlock = some g → g ≠ k) : Own w' E B A n c bs :=
  ⟨h.len, h.max, h.row.kept hk (by
    cases hv : (Value.slice A n c).ownBlock with
    | none => exact .inl rfl
    | some g => exact .inr (fun e => hne g hv (by injection e)))⟩
theorem bytesOf_getD (x k : Nat) (hk : k < 8) : (bytesOf x).getD k 0 = UInt8.ofNat (byt x k) := by
  match k, hk with
  | 0, _ => rfl
  | 1, _ => rfl
  | 2, _ => rfl
  | 3, _ => rfl
  | 4, _ => rfl
  | 5, _ => rfl
  | 6, _ => rfl
  | 7, _ => rfl
  | k + 8, h => exact absurd h (by omega)
theorem bytesOf_take (x k : Nat) (hk : k < 8) : (bytesOf x).take (k + 1) = (bytesOf x).take k ++ [UInt8.ofNat (byt x k)] := by
  have hl : k < (bytesOf x).length := hk
  rw [List.take_succ_eq_append_getElem hl, ← bytesOf_getD x k hk]
  congr 2
  simp [List.getD, hl]
theorem strm_part {s : St} {j k N : Nat} (hN : 8 * j + k = N) (hk : k ≤ 8) : strm s j ++ (bytesOf (outN (iterS j s))).take k = (strm s (j + 1)).take N := by
  show _ = (strm s j ++ bytesOf (outN (iterS j s))).take N
  rw [List.take_append, List.take_of_length_le (l := strm s j) (by rw [strm_len]; omega), strm_len, show N - 8 * j = k by omega]
theorem strm_whole {s : St} {j N : Nat} (hN : 8 * (j + 1) ≤ N) : strm s j ++ (bytesOf (outN (iterS j s))).take 8 = (strm s (j + 1)).take N := by
  show _ = (strm s (j + 1)).take N
  rw [List.take_of_length_le (l := strm s (j + 1)) (by rw [strm_len]; omega)]
  rfl
theorem digA_at' (n : Nat) (i : Nat) (h : i < 8) : (#[.int .u8 (byt n 0), .int .u8 (byt n 1), .int .u8 (byt n 2), .int .u8 (byt n 3), .int .u8 (byt n 4), .int .u8 (byt n 5), .int .u8 (byt n 6), .int .u8 (byt n 7)] : Array Value)[i]? = some (.int .u8 (byt n i)) := by
  match i, h with
  | 0, _ => rfl
  | 1, _ => rfl
  | 2, _ => rfl
  | 3, _ => rfl
  | 4, _ => rfl
  | 5, _ => rfl
  | 6, _ => rfl
  | 7, _ => rfl
  | i + 8, h => exact absurd h (by omega)
theorem Own.base {w : World} {E : TypeId} {B B' : Nat} {A : Option Addr} {n c : Nat} {bs : List UInt8} (h : Own w E B A n c bs) (hB : B' ≤ B) : Own w E B' A n c bs := by
  refine ⟨h.len, h.max, h.row.1, ?_⟩
  rcases h.row.2 with h1 | ⟨g, cap, cur, h1, h2, h3⟩
  · exact .inl h1
  · exact .inr ⟨g, cap, cur, h1, Nat.le_trans hB h2, h3⟩
theorem byte_cell {w : World} {b : Nat} {T : TypeId} {x : Nat} (h : w.heap[b]? = some (.cells #[.int .u8 (byt x 0), .int .u8 (byt x 1), .int .u8 (byt x 2), .int .u8 (byt x 3), .int .u8 (byt x 4), .int .u8 (byt x 5), .int .u8 (byt x 6), .int .u8 (byt x 7)] T (0, 0))) {k : Nat} (hk : k < 8) : w.cell? ⟨b, k, none⟩ = some (.int .u8 (byt x k)) := by
  rw [cell_of_row w b k _ _ _ h]
  have := digA_at' x k hk
  exact this

/-- a block with this state -/
def StBlk (s : St) (W : World) (x : Value) (v : World) : Prop := ∃ p, x = .pointer (some ⟨p, 0, none⟩) ∧ W.heap.size ≤ p ∧ v.heap[p]? = some (.cells #[.int .u64 s.a, .int .u64 s.b, .int .u64 s.c, .int .u64 s.d] 77 (0, 0)) ∧ Below W.heap.size W v

set_option maxRecDepth 100000 in
set_option maxHeartbeats 4000000 in
theorem rstream_c (w : World) (d : Nat) (hd : d < 18446744073709551616) (K : Int) : Calls Try.prog 24 #[digV d, .int .i64 K] w (Rows8 w (streamI d K)) := by
  by_cases hk : 1 ≤ K ∧ K ≤ 1048576
  case neg =>
    have HX : streamI d K = [] := by unfold streamI; exact if_neg hk
    rw [HX]
    clear HX
    by_cases hk1 : K < 1
    · clear hk
      unfold digV
      go_enter Try.func24, Try.ntmps24
      go_wp2_with fail
      go_ret
      exact ⟨_, _, _, rfl, Own.void _ _ _, ext_alloc _ _⟩
    · have hk2 : (1048576 : Int) < K := by omega
      clear hk
      unfold digV
      go_enter Try.func24, Try.ntmps24
      go_wp2_with fail
      go_ret
      exact ⟨_, _, _, rfl, Own.void _ _ _, ext_alloc _ _⟩
  obtain ⟨N, rfl⟩ : ∃ N : Nat, K = N := ⟨K.toNat, by omega⟩
  have hN1 : 1 ≤ N := by omega
  have hN2 : N ≤ 1048576 := by omega
  have HX : Hid (streamI d N = stream d N) := by
    show streamI d N = stream d N
    unfold streamI
    rw [if_pos hk, Int.toNat_natCast]
  rw [HX.out]
  have k1 : ¬ (N : Int) < 1 := by omega
  have k2 : ¬ (1048576 : Int) < (N : Int) := by omega
  have OK6 := Lib.hid (begin_ok (k := 6) (by omega))
  clear hk HX
  unfold digV
  go_enter Try.func24, Try.ntmps24
  go_wp2_with fail
  generalize hW : World.alloc (World.alloc w (.cells #[.int .u8 (byt d 0), .int .u8 (byt d 1), .int .u8 (byt d 2), .int .u8 (byt d 3), .int .u8 (byt d 4), .int .u8 (byt d 5), .int .u8 (byt d 6), .int .u8 (byt d 7)] 30)) (.cells #[] 5) = W
  have D : Hid (W.heap[w.heap.size]? = some (.cells #[.int .u8 (byt d 0), .int .u8 (byt d 1), .int .u8 (byt d 2), .int .u8 (byt d 3), .int .u8 (byt d 4), .int .u8 (byt d 5), .int .u8 (byt d 6), .int .u8 (byt d 7)] 30 (0, 0))) := by rw [← hW]; exact keepA (Go.heap_alloc_new w _)
  have O : Hid (Own W 5 w.heap.size (some ⟨w.heap.size + 1, 0, none⟩) 0 0 []) := by
    have := Own.empty (World.alloc w (.cells #[.int .u8 (byt d 0), .int .u8 (byt d 1), .int .u8 (byt d 2), .int .u8 (byt d 3), .int .u8 (byt d 4), .int .u8 (byt d 5), .int .u8 (byt d 6), .int .u8 (byt d 7)] 30)) 5
    rw [hW] at this
    have e : (World.alloc w (.cells #[.int .u8 (byt d 0), .int .u8 (byt d 1), .int .u8 (byt d 2), .int .u8 (byt d 3), .int .u8 (byt d 4), .int .u8 (byt d 5), .int .u8 (byt d 6), .int .u8 (byt d 7)] 30)).heap.size = w.heap.size + 1 := by simp
    rw [e] at this
    exact this.base (by omega)
  have B0 : Hid (Below w.heap.size w W) := by rw [← hW]; exact ext_trans (ext_alloc _ _) (ext_alloc _ _)
  have zW : w.heap.size + 1 < W.heap.size := by rw [← hW]; simp
  clear hW
  obtain ⟨s0, hs0⟩ : ∃ s, s = takeN (begin 6) d := ⟨_, rfl⟩
  have OKS : Hid s0.Ok := by rw [hs0]; exact takeN_ok OK6.out hd
  have HS := Lib.hid hs0
  clear hs0
  go_upto_region 4 with fail
  go_cut [6] (fun x wx => StBlk s0 W x wx)
  case first =>
    refine wp_region_tr (fin := 5) (fun v => Below W.heap.size W v) (.pure 1 (.two 0 (.two 2 (.two 3 (.eff 4 (.eff 5 .nil)) 4 (.eff 3 (.eff 5 .nil))) 4 (.eff 2 (.eff 3 (.eff 5 .nil)))) 4 (.eff 0 (.eff 2 (.eff 3 (.eff 5 .nil)))))) (by kernel_rfl) (by kernel_rfl) (by kernel_rfl) (fun _ _ d _ _ h => by cases d <;> exact h) (ext_drew W) ?_
    intro J0 hJ0
    refine tr_pure (v := digV d) rfl (by rfl) (fun v hC => ?_) ?_
    · obtain ⟨d0, d1, d2, d3, d4, d5, d6, d7, _, _, _, _, _, _, _, _⟩ := full8 (keepB hC D.out)
      unfold digV
      go_simp
    try go_simp
    have Q : Hid (Below W.heap.size W W.drew) := Lib.hid (ext_drew W)
    refine tr_two rfl rfl ?_ ?_
    · intro J hJ
      go_wp2_with fail
      refine (begin_c _ 6 6 rfl).mono ?_
      unfold stV
      rintro e v1 ⟨rfl, hb⟩
      have Q : Hid (Below W.heap.size W v1) := Lib.hid (ext_trans Q.out hb)
      clear hb
      go_wp2_with fail
      refine ⟨fun _ => Q.out, ?_⟩
      refine tr_two rfl rfl ?_ ?_
      · intro J hJ
        go_wp2_with fail
        refine (rnum_c _ d hd).mono ?_
        rintro e v2 ⟨rfl, hb⟩
        have Q : Hid (Below W.heap.size W v2) := Lib.hid (ext_trans Q.out hb)
        clear hb
        go_wp2_with fail
        refine ⟨fun _ => Q.out, ?_⟩
        refine tr_two rfl rfl ?_ ?_
        · intro J hJ
          go_wp2_with fail
          refine (rin_c _ (begin 6) d hd OK6).mono ?_
          rw [show takeN (begin 6) d = s0 from HS.out.symm]
          unfold stV
          rintro e v3 ⟨rfl, hb⟩
          have Q : Hid (Below W.heap.size W v3) := Lib.hid (ext_trans Q.out hb)
          clear hb
          go_wp2_with fail
          refine ⟨fun _ => Q.out, ?_⟩
          refine tr_eff rfl ?_
          intro J hJ
          go_wp2_with fail
          refine ⟨fun _ => ext_trans Q.out (ext_alloc _ _), ?_⟩
          obtain ⟨v4, hv4⟩ : ∃ v, v = World.alloc v3 (.cells #[.int .u64 0, .int .u64 0, .int .u64 0, .int .u64 0] 77) := ⟨_, rfl⟩
          rw [← hv4]
          obtain ⟨p, hp⟩ : ∃ p, p = (v3).heap.size := ⟨_, rfl⟩
          have hpd : (v3).heap.size = p := hp.symm
          try simp only [World.size_drew] at hpd
          try rw [hpd]
          have PA : Hid (v4.heap[p]? = some (.cells #[.int .u64 0, .int .u64 0, .int .u64 0, .int .u64 0] 77 (0, 0))) := by rw [hv4, hp]; exact Go.heap_alloc_new _ _
          have PZ : W.heap.size ≤ p := by rw [hp]; exact Q.out.size
          have Q : Hid (Below W.heap.size W v4) := by rw [hv4]; exact ext_trans Q.out (ext_alloc _ _)
          clear hv4 hp hpd
          refine tr_eff rfl ?_
          intro J hJ
          obtain ⟨e0, e1, e2, e3, f0, f1, f2, f3⟩ := full4 PA.out
          go_wp2_with fail
          refine ⟨fun h => absurd rfl h, ?_⟩
          refine tr_nil (hJ0 _ _ ?_)
          go_wp2_with fail
          go_meet
          exact ⟨_, rfl, PZ, set4 PA.out _ _ _ _, bel4 Q.out (Nat.le_refl _) PZ _ _ _ _⟩
        · intro J hJ
          go_wp2_with fail
          refine ⟨fun _ => ext_trans Q.out (ext_alloc _ _), ?_⟩
          obtain ⟨v5, hv5⟩ : ∃ v, v = World.alloc v2 (.cells #[.int .u64 0, .int .u64 0, .int .u64 0, .int .u64 0] 77) := ⟨_, rfl⟩
          rw [← hv5]
          obtain ⟨p, hp⟩ : ∃ p, p = (v2).heap.size := ⟨_, rfl⟩
          have hpd : (v2).heap.size = p := hp.symm
          try simp only [World.size_drew] at hpd
          try rw [hpd]
          have PA : Hid (v5.heap[p]? = some (.cells #[.int .u64 0, .int .u64 0, .int .u64 0, .int .u64 0] 77 (0, 0))) := by rw [hv5, hp]; exact Go.heap_alloc_new _ _
          have PZ : W.heap.size ≤ p := by rw [hp]; exact Q.out.size
          have Q : Hid (Below W.heap.size W v5) := by rw [hv5]; exact ext_trans Q.out (ext_alloc _ _)
          clear hv5 hp hpd
          refine tr_eff rfl ?_
          intro J hJ
          go_wp2_with fail
          refine (rin_c _ (begin 6) d hd OK6).mono ?_
          rw [show takeN (begin 6) d = s0 from HS.out.symm]
          unfold stV
          rintro e v6 ⟨rfl, hb⟩
          have PA := Lib.hid (keepB hb PA.out)
          have Q : Hid (Below W.heap.size W v6) := Lib.hid (ext_trans Q.out hb)
          clear hb
          go_wp2_with fail
          refine ⟨fun _ => Q.out, ?_⟩
          refine tr_eff rfl ?_
          intro J hJ
          obtain ⟨e0, e1, e2, e3, f0, f1, f2, f3⟩ := full4 PA.out
          go_wp2_with fail
          refine ⟨fun h => absurd rfl h, ?_⟩
          refine tr_nil (hJ0 _ _ ?_)
          go_wp2_with fail
          go_meet
          exact ⟨_, rfl, PZ, set4 PA.out _ _ _ _, bel4 Q.out (Nat.le_refl _) PZ _ _ _ _⟩
      · intro J hJ
        go_wp2_with fail
        refine ⟨fun _ => ext_trans Q.out (ext_alloc _ _), ?_⟩
        obtain ⟨v7, hv7⟩ : ∃ v, v = World.alloc v1 (.cells #[.int .u64 0, .int .u64 0, .int .u64 0, .int .u64 0] 77) := ⟨_, rfl⟩
        rw [← hv7]
        obtain ⟨p, hp⟩ : ∃ p, p = (v1).heap.size := ⟨_, rfl⟩
        have hpd : (v1).heap.size = p := hp.symm
        try simp only [World.size_drew] at hpd
        try rw [hpd]
        have PA : Hid (v7.heap[p]? = some (.cells #[.int .u64 0, .int .u64 0, .int .u64 0, .int .u64 0] 77 (0, 0))) := by rw [hv7, hp]; exact Go.heap_alloc_new _ _
        have PZ : W.heap.size ≤ p := by rw [hp]; exact Q.out.size
        have Q : Hid (Below W.heap.size W v7) := by rw [hv7]; exact ext_trans Q.out (ext_alloc _ _)
        clear hv7 hp hpd
        refine tr_eff rfl ?_
        intro J hJ
        go_wp2_with fail
        refine (rnum_c _ d hd).mono ?_
        rintro e v8 ⟨rfl, hb⟩
        have PA := Lib.hid (keepB hb PA.out)
        have Q : Hid (Below W.heap.size W v8) := Lib.hid (ext_trans Q.out hb)
        clear hb
        go_wp2_with fail
        refine ⟨fun _ => Q.out, ?_⟩
        refine tr_eff rfl ?_
        intro J hJ
        go_wp2_with fail
        refine (rin_c _ (begin 6) d hd OK6).mono ?_
        rw [show takeN (begin 6) d = s0 from HS.out.symm]
        unfold stV
        rintro e v9 ⟨rfl, hb⟩
        have PA := Lib.hid (keepB hb PA.out)
        have Q : Hid (Below W.heap.size W v9) := Lib.hid (ext_trans Q.out hb)
        clear hb
        go_wp2_with fail
        refine ⟨fun _ => Q.out, ?_⟩
        refine tr_eff rfl ?_
        intro J hJ
        obtain ⟨e0, e1, e2, e3, f0, f1, f2, f3⟩ := full4 PA.out
        go_wp2_with fail
        refine ⟨fun h => absurd rfl h, ?_⟩
        refine tr_nil (hJ0 _ _ ?_)
        go_wp2_with fail
        go_meet
        exact ⟨_, rfl, PZ, set4 PA.out _ _ _ _, bel4 Q.out (Nat.le_refl _) PZ _ _ _ _⟩
    · intro J hJ
      go_wp2_with fail
      refine ⟨fun _ => ext_trans (ext_alloc _ _) (ext_drew _), ?_⟩
      obtain ⟨v10, hv10⟩ : ∃ v, v = World.drew (World.alloc W (.cells #[.int .u64 0, .int .u64 0, .int .u64 0, .int .u64 0] 77)) := ⟨_, rfl⟩
      rw [← hv10]
      have PA : Hid (v10.heap[W.heap.size]? = some (.cells #[.int .u64 0, .int .u64 0, .int .u64 0, .int .u64 0] 77 (0, 0))) := by rw [hv10]; exact Go.heap_alloc_new W _
      have PZ : W.heap.size ≤ W.heap.size := Nat.le_refl _
      have Q : Hid (Below W.heap.size W v10) := by rw [hv10]; exact ext_trans (ext_alloc _ _) (ext_drew _)
      clear hv10
      refine tr_eff rfl ?_
      intro J hJ
      go_wp2_with fail
      refine (begin_c _ 6 6 rfl).mono ?_
      unfold stV
      rintro e v11 ⟨rfl, hb⟩
      have PA := Lib.hid (keepB hb PA.out)
      have Q : Hid (Below W.heap.size W v11) := Lib.hid (ext_trans Q.out hb)
      clear hb
      go_wp2_with fail
      refine ⟨fun _ => Q.out, ?_⟩
      refine tr_eff rfl ?_
      intro J hJ
      go_wp2_with fail
      refine (rnum_c _ d hd).mono ?_
      rintro e v12 ⟨rfl, hb⟩
      have PA := Lib.hid (keepB hb PA.out)
      have Q : Hid (Below W.heap.size W v12) := Lib.hid (ext_trans Q.out hb)
      clear hb
      go_wp2_with fail
      refine ⟨fun _ => Q.out, ?_⟩
      refine tr_eff rfl ?_
      intro J hJ
      go_wp2_with fail
      refine (rin_c _ (begin 6) d hd OK6).mono ?_
      rw [show takeN (begin 6) d = s0 from HS.out.symm]
      unfold stV
      rintro e v13 ⟨rfl, hb⟩
      have PA := Lib.hid (keepB hb PA.out)
      have Q : Hid (Below W.heap.size W v13) := Lib.hid (ext_trans Q.out hb)
      clear hb
      go_wp2_with fail
      refine ⟨fun _ => Q.out, ?_⟩
      refine tr_eff rfl ?_
      intro J hJ
      obtain ⟨e0, e1, e2, e3, f0, f1, f2, f3⟩ := full4 PA.out
      go_wp2_with fail
      refine ⟨fun h => absurd rfl h, ?_⟩
      refine tr_nil (hJ0 _ _ ?_)
      go_wp2_with fail
      go_meet
      exact ⟨_, rfl, PZ, set4 PA.out _ _ _ _, bel4 Q.out (Nat.le_refl _) PZ _ _ _ _⟩
  case rest =>
    obtain ⟨p, rfl, hpW, hps, hbw⟩ := hcut
    have zp : w.heap.size + 1 < p := by omega
    have S := Lib.hid hps
    replace O := Lib.hid (O.out.ext hbw)
    replace B0 := Lib.hid (ext_trans B0.out hbw)
    clear hps hbw D
    go_wp2_with fail
    go_loopw [5] (fun ov wr => ∃ (j m : Nat) (A : Option Addr) (c : Nat), ov = .slice A m c ∧ m ≤ N ∧ (m = 8 * j ∨ (m = N ∧ N ≤ 8 * j)) ∧ Hid (Own wr 5 w.heap.size A m c ((strm s0 j).take N)) ∧ Hid (∀ g, (Value.slice A m c).ownBlock = some g → g ≠ p) ∧ Hid (wr.heap[p]? = some (.cells #[.int .u64 (iterS j s0).a, .int .u64 (iterS j s0).b, .int .u64 (iterS j s0).c, .int .u64 (iterS j s0).d] 77 (0, 0))) ∧ Hid (Below w.heap.size w wr)) (fun ov _ => N - (match ov with | .slice _ n _ => n | _ => 0))
    case atStart => exact ⟨0, 0, _, _, rfl, by omega, .inl rfl, by simpa [Hid, strm] using O.out, (fun g hg => by simp [Value.ownBlock] at hg; omega), S.out, B0.out⟩
    case round =>
      clear O S B0
      obtain ⟨j, m, A, c, rfl, hmN, hmj, O, NE, S, B⟩ := hrel
      have y1 : p < wr.heap.size := (Array.getElem?_eq_some_iff.1 S.out).1
      by_cases hlt : m < N
      · obtain rfl : m = 8 * j := by omega
        have hI : 8 * (j : Int) < (N : Int) := by omega
        have OKj := Lib.hid (iterS_ok OKS.out j)
        obtain ⟨z, hz⟩ : ∃ z, z = iterS j s0 := ⟨_, rfl⟩
        obtain ⟨x, hx⟩ : ∃ x, x = outN (iterS j s0) := ⟨_, rfl⟩
        have HZ := Lib.hid hz
        have HXx := Lib.hid hx
        have HX2 : Hid (outN z = x) := by show outN z = x; rw [hz, hx]
        rw [← hz] at S OKj
        have O1 : Hid (Own wr 5 w.heap.size A (8 * j) c (strm s0 j)) := by
          have := O.out
          rw [List.take_of_length_le (by rw [strm_len]; omega)] at this
          exact this
        clear hz hx O hmj
        obtain ⟨s0', s1, s2, s3, _, _, _, _⟩ := full4 S.out
        go_wp2_with fail
        refine (out_c _ z OKj).mono ?_
        rw [HX2.out]
        unfold digV
        rintro e w5 ⟨rfl, hb⟩
        have X5 := Lib.hid (Go.heap_alloc_new w5 (.cells #[.int .u8 (byt x 0), .int .u8 (byt x 1), .int .u8 (byt x 2), .int .u8 (byt x 3), .int .u8 (byt x 4), .int .u8 (byt x 5), .int .u8 (byt x 6), .int .u8 (byt x 7)] 30))
        have O5 := Lib.hid ((O1.out.ext hb).ext (ext_alloc w5 (.cells #[.int .u8 (byt x 0), .int .u8 (byt x 1), .int .u8 (byt x 2), .int .u8 (byt x 3), .int .u8 (byt x 4), .int .u8 (byt x 5), .int .u8 (byt x 6), .int .u8 (byt x 7)] 30)))
        have S5 := Lib.hid (keepA (x := .cells #[.int .u8 (byt x 0), .int .u8 (byt x 1), .int .u8 (byt x 2), .int .u8 (byt x 3), .int .u8 (byt x 4), .int .u8 (byt x 5), .int .u8 (byt x 6), .int .u8 (byt x 7)] 30) (keepB hb S.out))
        have B5 := Lib.hid (ext_trans (ext_trans B.out hb) (ext_alloc w5 (.cells #[.int .u8 (byt x 0), .int .u8 (byt x 1), .int .u8 (byt x 2), .int .u8 (byt x 3), .int .u8 (byt x 4), .int .u8 (byt x 5), .int .u8 (byt x 6), .int .u8 (byt x 7)] 30)))
        have y5 : p < w5.heap.size := Nat.lt_of_lt_of_le y1 hb.size
        have NX : Hid (∀ g, (Value.slice A (8 * j) c).ownBlock = some g → g ≠ w5.heap.size) := fun g hg => by
          have h1 := (O1.out.row.lt g hg).2
          have h2 := hb.size
          omega
        clear hb s0' s1 s2 s3 O1 S B
        go_wp2_with fail
        go_loopw [5, 8] (fun ov kv wq => ∃ (k : Nat) (A2 : Option Addr) (c2 : Nat), ov = .slice A2 (8 * j + k) c2 ∧ kv = .int .i64 k ∧ k ≤ 8 ∧ 8 * j + k ≤ N ∧ Hid (Own wq 5 w.heap.size A2 (8 * j + k) c2 (strm s0 j ++ (bytesOf x).take k)) ∧ Hid (∀ g, (Value.slice A2 (8 * j + k) c2).ownBlock = some g → g ≠ p) ∧ Hid (∀ g, (Value.slice A2 (8 * j + k) c2).ownBlock = some g → g ≠ w5.heap.size) ∧ Hid (wq.heap[w5.heap.size]? = some (.cells #[.int .u8 (byt x 0), .int .u8 (byt x 1), .int .u8 (byt x 2), .int .u8 (byt x 3), .int .u8 (byt x 4), .int .u8 (byt x 5), .int .u8 (byt x 6), .int .u8 (byt x 7)] 30 (0, 0))) ∧ Hid (wq.heap[p]? = some (.cells #[.int .u64 z.a, .int .u64 z.b, .int .u64 z.c, .int .u64 z.d] 77 (0, 0))) ∧ Hid (Below w.heap.size w wq)) (fun _ kv _ => 8 - (intOf kv).toNat)
        case atStart => exact ⟨0, A, c, rfl, rfl, by omega, by omega, by simpa [Hid] using O5.out, NE.out, NX.out, X5.out, S5.out, B5.out⟩
        case round =>
          clear X5 O5 S5 NE NX
          clear B5
          obtain ⟨k, A2, c2, rfl, rfl, hk8, hkN, O5, NE5, NX5, X5, S5, B5⟩ := hrel
          by_cases hgo : k < 8 ∧ 8 * j + k < N
          · obtain ⟨hk, hkn⟩ := hgo
            have i1 : (k : Int) < 8 := by omega
            have i2 : 8 * (j : Int) + (k : Int) < (N : Int) := by omega
            have i0 : (0 : Int) ≤ (k : Int) := by omega
            have ck := byte_cell X5.out hk
            have lb := byt_lt x k
            go_wp2_with (refine wpList_push1 (o := ⟨some 41, _, _, _, _, _⟩) rfl (.tmp 36) (.tmp 40) 22 rfl 5 Try.underlying22 infoU8 w.heap.size A2 (8 * j + k) c2 _ (by rfl) O5.out _ (UInt8.ofNat (byt x k)) (by rw [byt_nat]) (by rfl) (by omega) B5.out.size ?_; intro A3 c3 w6 ho hb hg hat; have O6 := Lib.hid ho; have B6 := Lib.hid hb; have G6 := Lib.hid hg; have AT := Lib.hid hat; clear ho hb hg hat; go_simp)
            have zs : p < wr.heap.size := (Array.getElem?_eq_some_iff.1 S5.out).1
            have zx : w5.heap.size < wr.heap.size := (Array.getElem?_eq_some_iff.1 X5.out).1
            refine ⟨⟨k + 1, A3, c3, by rw [Nat.add_assoc], by go_num, by omega, by omega, ?_, ?_, ?_, ?_, ?_, ?_⟩, by simp [intOf]; omega⟩
            · have := O6.out
              rw [List.append_assoc, ← bytesOf_take x k hk] at this
              exact this
            · intro g hg
              rcases AT.out g hg with h1 | h1
              · exact NE5.out g h1
              · omega
            · intro g hg
              rcases AT.out g hg with h1 | h1
              · exact NX5.out g h1
              · omega
            · exact (G6.out.block _ zx (fun e => NX5.out _ e.symm rfl)).trans X5.out
            · exact (G6.out.block _ zs (fun e => NE5.out _ e.symm rfl)).trans S5.out
            · exact B5.out.trans (B6.out.mono (by omega))
          · clear HX2
            by_cases hk : k < 8
            · have SP : Hid (strm s0 j ++ (bytesOf x).take k = (strm s0 (j + 1)).take N) := by
                have := strm_part (s := s0) (j := j) (k := k) (N := N) (by omega) hk8
                rw [← HXx.out] at this
                exact this
              have i1 : (k : Int) < 8 := by omega
              have i2 : ¬ 8 * (j : Int) + (k : Int) < (N : Int) := by omega
              obtain ⟨q0, q1, q2, q3, _, _, _, _⟩ := full4 S5.out
              go_wp2_with fail
              refine (rstir_c _ z OKj).mono ?_
              unfold stV
              rintro e w6 ⟨rfl, hb6⟩
              have S6 := Lib.hid (keepB hb6 S5.out)
              have O6 := Lib.hid (O5.out.ext hb6)
              have B6 := Lib.hid (ext_trans B5.out hb6)
              clear hb6 q0 q1 q2 q3
              obtain ⟨q0, q1, q2, q3, e0, e1, e2, e3⟩ := full4 S6.out
              go_wp2_with fail
              refine ⟨⟨j + 1, 8 * j + k, A2, c2, rfl, hkN, by omega, ?_, NE5.out, ?_, bel4 B6.out (Nat.le_refl _) (by omega) _ _ _ _⟩, (by show N - (8 * j + k) < N - 8 * j; omega)⟩
              · have h1 := O6.out.keptNe (grown_then (setCell_grown (b := p) (j := 0) (.int .u64 (stir z).a)) (grown_then (setCell_grown (j := 1) (.int .u64 (stir z).b)) (grown_then (setCell_grown (j := 2) (.int .u64 (stir z).c)) (setCell_grown (j := 3) (.int .u64 (stir z).d))))) NE5.out
                rw [SP.out] at h1
                exact h1
              · have h1 := set4 S6.out (.int .u64 (stir z).a) (.int .u64 (stir z).b) (.int .u64 (stir z).c) (.int .u64 (stir z).d)
                have h2 : iterS (j + 1) s0 = stir z := by rw [HZ.out]; rfl
                rw [h2]
                exact h1
            · obtain rfl : k = 8 := by omega
              have SP : Hid (strm s0 j ++ (bytesOf x).take 8 = (strm s0 (j + 1)).take N) := by
                have := strm_whole (s := s0) (j := j) (N := N) (by omega)
                rw [← HXx.out] at this
                exact this
              obtain ⟨q0, q1, q2, q3, _, _, _, _⟩ := full4 S5.out
              go_wp2_with fail
              refine (rstir_c _ z OKj).mono ?_
              unfold stV
              rintro e w6 ⟨rfl, hb6⟩
              have S6 := Lib.hid (keepB hb6 S5.out)
              have O6 := Lib.hid (O5.out.ext hb6)
              have B6 := Lib.hid (ext_trans B5.out hb6)
              clear hb6 q0 q1 q2 q3
              obtain ⟨q0, q1, q2, q3, e0, e1, e2, e3⟩ := full4 S6.out
              go_wp2_with fail
              refine ⟨⟨j + 1, 8 * j + 8, A2, c2, rfl, hkN, by omega, ?_, NE5.out, ?_, bel4 B6.out (Nat.le_refl _) (by omega) _ _ _ _⟩, (by show N - (8 * j + 8) < N - 8 * j; omega)⟩
              · have h1 := O6.out.keptNe (grown_then (setCell_grown (b := p) (j := 0) (.int .u64 (stir z).a)) (grown_then (setCell_grown (j := 1) (.int .u64 (stir z).b)) (grown_then (setCell_grown (j := 2) (.int .u64 (stir z).c)) (setCell_grown (j := 3) (.int .u64 (stir z).d))))) NE5.out
                rw [SP.out] at h1
                exact h1
              · have h1 := set4 S6.out (.int .u64 (stir z).a) (.int .u64 (stir z).b) (.int .u64 (stir z).c) (.int .u64 (stir z).d)
                have h2 : iterS (j + 1) s0 = stir z := by rw [HZ.out]; rfl
                rw [h2]
                exact h1
      · obtain rfl : m = N := by omega
        have hI : ¬ (m : Int) < (m : Int) := by omega
        have HF : Hid ((strm s0 j).take m = stream d m) := by
          show (strm s0 j).take m = stream d m
          rw [HS.out]
          exact stream_of (by omega)
        go_wp2_with fail
        go_ret
        exact ⟨_, _, _, rfl, by rw [← HF.out]; exact O.out, B.out⟩
#print axioms rstream_c
end Go.Proofs.Ytdejlahgeckobaa
