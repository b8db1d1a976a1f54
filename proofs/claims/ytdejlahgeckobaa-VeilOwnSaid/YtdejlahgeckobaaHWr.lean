/-
  hash: a state within a Writer (behind its bytes): stir, take, takeEights: contracts.
-/
import Derived.Test.YtdejlahgeckobaaHEights
namespace Go.Proofs.Ytdejlahgeckobaa
open Go.RowKit

/-- a Writer in memory: its bytes' slice (whatever it is), and the state -/
structure WrAt (w : World) (T : TypeId) (b : Nat) (X : Value) (s : St) : Prop where
  blk : w.heap[b]? = some (.cells #[X, .int .u64 s.a, .int .u64 s.b, .int .u64 s.c, .int .u64 s.d] T (0, 0))
  ok : s.Ok
theorem WrAt.keep {w w' : World} {T : TypeId} {b : Nat} {X : Value} {s : St} (h : WrAt w T b X s) (k : Below w.heap.size w w') : WrAt w' T b X s := ⟨keepB k h.blk, h.ok⟩
theorem WrAt.keepG {w w' : World} {T : TypeId} {b : Nat} {X : Value} {s : St} (h : WrAt w T b X s) {g : Nat} (hg : w.grownBy w' (some g)) (hne : b ≠ g) : WrAt w' T b X s := ⟨Go.Proofs.Ytdejlahgeckobaa.keepG hg hne h.blk, h.ok⟩
theorem Wr4.put {w : World} {T : TypeId} {b : Nat} {X x0 x1 x2 x3 : Value} (h : w.heap[b]? = some (.cells #[X, x0, x1, x2, x3] T (0, 0))) (s : St) (ok : s.Ok) :
    WrAt ((((w.setCell ⟨b, 1, none⟩ (.int .u64 s.a)).setCell ⟨b, 2, none⟩ (.int .u64 s.b)).setCell ⟨b, 3, none⟩ (.int .u64 s.c)).setCell ⟨b, 4, none⟩ (.int .u64 s.d)) T b X s ∧
      w.grownBy ((((w.setCell ⟨b, 1, none⟩ (.int .u64 s.a)).setCell ⟨b, 2, none⟩ (.int .u64 s.b)).setCell ⟨b, 3, none⟩ (.int .u64 s.c)).setCell ⟨b, 4, none⟩ (.int .u64 s.d)) (some b) :=
  ⟨⟨heap_setCell_same _ b 4 _ _ _ (heap_setCell_same _ b 3 _ _ _ (heap_setCell_same _ b 2 _ _ _ (heap_setCell_same _ b 1 _ _ _ h))), ok⟩,
   grown_then (setCell_grown _) (grown_then (setCell_grown _) (grown_then (setCell_grown _) (setCell_grown _)))⟩

set_option maxRecDepth 100000 in
set_option maxHeartbeats 1000000 in
theorem stir1_c (w : World) (T : TypeId) (b : Nat) (X : Value) (s : St) (h : Hid (WrAt w T b X s)) : Calls Try.prog 54 #[.pointer (some ⟨b, 1, none⟩)] w (fun e w' => e = .returned (.tuple #[]) ∧ WrAt w' T b X (stir s) ∧ w.grownBy w' (some b)) := by
  have hb := h.out.blk
  have c0 : w.cell? ⟨b, 1, none⟩ = some (.int .u64 s.a) := by rw [cell_of_row w b 1 _ _ _ hb]; rfl
  have c1 : w.cell? ⟨b, 2, none⟩ = some (.int .u64 s.b) := by rw [cell_of_row w b 2 _ _ _ hb]; rfl
  have c2 : w.cell? ⟨b, 3, none⟩ = some (.int .u64 s.c) := by rw [cell_of_row w b 3 _ _ _ hb]; rfl
  have c3 : w.cell? ⟨b, 4, none⟩ = some (.int .u64 s.d) := by rw [cell_of_row w b 4 _ _ _ hb]; rfl
  have fr : ∀ j, w.frozen? ⟨b, j, none⟩ = false := fun j => by simp [World.frozen?, hb]
  have FR := Lib.hid fr
  clear fr
  have HB := Lib.hid hb
  clear hb
  go_enter Try.func54, Try.ntmps54
  go_wp2_with fail
  go_quiet (fail)
  go_wp2_with fail
  go_loopw [2, 3, 4, 5, 23] (fun v0 v1 v2 v3 iv wr => ∃ (k q : Nat) (z : St), k ≤ 6 ∧ iv = .int .i64 k ∧ v0 = .int .u64 z.a ∧ v1 = .int .u64 z.b ∧ v2 = .int .u64 z.c ∧ v3 = .int .u64 z.d ∧ z.Ok ∧ Hid (z = rnds k s) ∧ wr = w.drewN q) (fun _ _ _ _ iv _ => 6 - (intOf iv).toNat)
  case atStart => exact ⟨0, _, s, Nat.zero_le _, rfl, rfl, rfl, rfl, rfl, h.out.ok, rfl, rfl⟩
  case round =>
    obtain ⟨k, q, ⟨a, b', c, d⟩, hk, rfl, rfl, rfl, rfl, rfl, ok, hz, rfl⟩ := hrel
    by_cases hlt : k < 6
    · have La : a < 18446744073709551616 := ok.a
      have Lb' : b' < 18446744073709551616 := ok.b
      have Lc : c < 18446744073709551616 := ok.c
      have Ld : d < 18446744073709551616 := ok.d
      obtain ⟨s1, hs1⟩ : ∃ t : Nat, t = add64 a b' := ⟨_, rfl⟩
      have Es1 : IntKind.u64.wrap ((a : Int) + (b' : Int)) = (s1 : Int) := by rw [hs1]; exact add64_wrap _ _
      have Ls1 : s1 < 18446744073709551616 := by rw [hs1]; exact add64_lt _ _
      have Hs1 := Lib.hid hs1
      clear hs1
      obtain ⟨a1, ha1⟩ : ∃ t : Nat, t = s1 ^^^ (k + 1) := ⟨_, rfl⟩
      have Ea1 : bits BinOp.xor IntKind.u64 (s1 : Int) ((k : Int) + 1) = (a1 : Int) := by
        rw [ha1]
        have e := bits_xor_u64_nat s1 (k + 1) (by omega) (by omega)
        push_cast at e
        exact e
      have La1 : a1 < 18446744073709551616 := by rw [ha1]; exact xor64_lt (by omega) (by omega)
      have Ha1 := Lib.hid ha1
      clear ha1
      obtain ⟨x1, hx1⟩ : ∃ t : Nat, t = d ^^^ a1 := ⟨_, rfl⟩
      have Ex1 : bits BinOp.xor IntKind.u64 (d : Int) (a1 : Int) = (x1 : Int) := by
        rw [hx1]
        have e := bits_xor_u64_nat d a1 (by omega) (by omega)
        exact e
      have Lx1 : x1 < 18446744073709551616 := by rw [hx1]; exact xor64_lt (by omega) (by omega)
      have Hx1 := Lib.hid hx1
      clear hx1
      obtain ⟨d1, hd1⟩ : ∃ t : Nat, t = rotl 4294967296 4294967296 x1 := ⟨_, rfl⟩
      have Ld1 : d1 < 18446744073709551616 := by rw [hd1]; exact rotl_lt (by omega)
      have Hd1 := Lib.hid hd1
      clear hd1
      go_wp2_with fail
      refine (rot32 _ x1 Lx1).mono ?_
      unfold Turns
      rw [← Hd1.out]
      rintro e v ⟨rfl, rfl⟩
      obtain ⟨c1, hc1⟩ : ∃ t : Nat, t = add64 c d1 := ⟨_, rfl⟩
      have Ec1 : IntKind.u64.wrap ((c : Int) + (d1 : Int)) = (c1 : Int) := by rw [hc1]; exact add64_wrap _ _
      have Lc1 : c1 < 18446744073709551616 := by rw [hc1]; exact add64_lt _ _
      have Hc1 := Lib.hid hc1
      clear hc1
      obtain ⟨x2, hx2⟩ : ∃ t : Nat, t = b' ^^^ c1 := ⟨_, rfl⟩
      have Ex2 : bits BinOp.xor IntKind.u64 (b' : Int) (c1 : Int) = (x2 : Int) := by
        rw [hx2]
        have e := bits_xor_u64_nat b' c1 (by omega) (by omega)
        exact e
      have Lx2 : x2 < 18446744073709551616 := by rw [hx2]; exact xor64_lt (by omega) (by omega)
      have Hx2 := Lib.hid hx2
      clear hx2
      obtain ⟨b1, hb1⟩ : ∃ t : Nat, t = rotl 16777216 1099511627776 x2 := ⟨_, rfl⟩
      have Lb1 : b1 < 18446744073709551616 := by rw [hb1]; exact rotl_lt (by omega)
      have Hb1 := Lib.hid hb1
      clear hb1
      go_wp2_with fail
      refine (rot24 _ x2 Lx2).mono ?_
      unfold Turns
      rw [← Hb1.out]
      rintro e v ⟨rfl, rfl⟩
      obtain ⟨a2, ha2⟩ : ∃ t : Nat, t = add64 a1 b1 := ⟨_, rfl⟩
      have Ea2 : IntKind.u64.wrap ((a1 : Int) + (b1 : Int)) = (a2 : Int) := by rw [ha2]; exact add64_wrap _ _
      have La2 : a2 < 18446744073709551616 := by rw [ha2]; exact add64_lt _ _
      have Ha2 := Lib.hid ha2
      clear ha2
      obtain ⟨x3, hx3⟩ : ∃ t : Nat, t = d1 ^^^ a2 := ⟨_, rfl⟩
      have Ex3 : bits BinOp.xor IntKind.u64 (d1 : Int) (a2 : Int) = (x3 : Int) := by
        rw [hx3]
        have e := bits_xor_u64_nat d1 a2 (by omega) (by omega)
        exact e
      have Lx3 : x3 < 18446744073709551616 := by rw [hx3]; exact xor64_lt (by omega) (by omega)
      have Hx3 := Lib.hid hx3
      clear hx3
      obtain ⟨d2, hd2⟩ : ∃ t : Nat, t = rotl 65536 281474976710656 x3 := ⟨_, rfl⟩
      have Ld2 : d2 < 18446744073709551616 := by rw [hd2]; exact rotl_lt (by omega)
      have Hd2 := Lib.hid hd2
      clear hd2
      go_wp2_with fail
      refine (rot16 _ x3 Lx3).mono ?_
      unfold Turns
      rw [← Hd2.out]
      rintro e v ⟨rfl, rfl⟩
      obtain ⟨c2, hc2⟩ : ∃ t : Nat, t = add64 c1 d2 := ⟨_, rfl⟩
      have Ec2 : IntKind.u64.wrap ((c1 : Int) + (d2 : Int)) = (c2 : Int) := by rw [hc2]; exact add64_wrap _ _
      have Lc2 : c2 < 18446744073709551616 := by rw [hc2]; exact add64_lt _ _
      have Hc2 := Lib.hid hc2
      clear hc2
      obtain ⟨x4, hx4⟩ : ∃ t : Nat, t = b1 ^^^ c2 := ⟨_, rfl⟩
      have Ex4 : bits BinOp.xor IntKind.u64 (b1 : Int) (c2 : Int) = (x4 : Int) := by
        rw [hx4]
        have e := bits_xor_u64_nat b1 c2 (by omega) (by omega)
        exact e
      have Lx4 : x4 < 18446744073709551616 := by rw [hx4]; exact xor64_lt (by omega) (by omega)
      have Hx4 := Lib.hid hx4
      clear hx4
      obtain ⟨b2, hb2⟩ : ∃ t : Nat, t = rotl 9223372036854775808 2 x4 := ⟨_, rfl⟩
      have Lb2 : b2 < 18446744073709551616 := by rw [hb2]; exact rotl_lt (by omega)
      have Hb2 := Lib.hid hb2
      clear hb2
      go_wp2_with fail
      refine (rot63 _ x4 Lx4).mono ?_
      unfold Turns
      rw [← Hb2.out]
      rintro e v ⟨rfl, rfl⟩
      go_wp2_with fail
      have Z : Hid ((⟨a2, b2, c2, d2⟩ : St) = rnds (k + 1) s) := by
        show (⟨a2, b2, c2, d2⟩ : St) = rnd (k + 1) (rnds k s)
        rw [← hz.out]
        simp only [rnd, half1, half2, ← Hs1.out, ← Ha1.out, ← Hx1.out, ← Hd1.out, ← Hc1.out, ← Hx2.out, ← Hb1.out, ← Ha2.out, ← Hx3.out, ← Hd2.out, ← Hc2.out, ← Hx4.out, ← Hb2.out]
      exact ⟨⟨k + 1, q, ⟨a2, b2, c2, d2⟩, by omega, by go_num, rfl, rfl, rfl, rfl, ⟨La2, Lb2, Lc2, Ld2⟩, Z, rfl⟩, by simp [intOf]; omega⟩
    · obtain rfl : k = 6 := by omega
      have hb' : (w.drewN q).heap[b]? = some (.cells #[X, .int .u64 s.a, .int .u64 s.b, .int .u64 s.c, .int .u64 s.d] T (0, 0)) := HB.out
      have fr0 := FR.out 1
      have fr1 := FR.out 2
      have fr2 := FR.out 3
      have fr3 := FR.out 4
      go_wp2_with fail
      have P := Wr4.put (w := w.drewN q) hb' (rnds 6 s) (rnds_ok h.out.ok 6 (by omega))
      rw [← hz.out] at P
      refine bodyPost_end (results_none rfl _ _ _) rfl ⟨rfl, ?_, ?_⟩
      · show WrAt _ _ _ _ (rnds 6 s)
        rw [← hz.out]
        exact P.1
      · exact grown_then (draws_grown w q) P.2

/-- the call turns the Writer's state into this one -/
def MakesW (T : TypeId) (b : Nat) (X : Value) (s : St) (w : World) (e : Ending) (w' : World) : Prop := e = .returned (.tuple #[]) ∧ WrAt w' T b X s ∧ w.grownBy w' (some b)

set_option maxRecDepth 100000 in
set_option maxHeartbeats 400000 in
theorem take1_c (w : World) (T : TypeId) (b : Nat) (X : Value) (s : St) (n : Nat) (hn : n < 18446744073709551616) (h : Hid (WrAt w T b X s)) : Calls Try.prog 53 #[.pointer (some ⟨b, 1, none⟩), .int .u64 n] w (MakesW T b X (takeN s n) w) := by
  have hb := h.out.blk
  have c0 : w.cell? ⟨b, 1, none⟩ = some (.int .u64 s.a) := by rw [cell_of_row w b 1 _ _ _ hb]; rfl
  have f0 : w.frozen? ⟨b, 1, none⟩ = false := by simp [World.frozen?, hb]
  have HB := Lib.hid hb
  clear hb
  have Ln := h.out.ok.a
  obtain ⟨x, hx⟩ : ∃ x : Nat, x = s.a ^^^ n := ⟨_, rfl⟩
  have E : bits BinOp.xor IntKind.u64 (s.a : Int) (n : Int) = (x : Int) := by rw [hx]; exact bits_xor_u64_nat _ _ Ln hn
  have HX := Lib.hid hx
  have OK := Lib.hid (takeN_pre h.out.ok hn)
  clear hx
  go_enter Try.func53, Try.ntmps53
  go_wp2_with fail
  go_still_tail 8, (by kernel_rfl)
  change wpList _ _ _ _ _ w.drew
  go_wp2_with fail
  have S : Hid (WrAt (w.drew.setCell ⟨b, 1, none⟩ (.int .u64 x)) T b X ⟨s.a ^^^ n, s.b, s.c, s.d⟩) := ⟨by rw [← HX.out]; exact heap_set_same (w := w.drew) _ HB.out, OK.out⟩
  refine (stir1_c _ _ _ _ _ S).mono ?_
  rintro e w2 ⟨rfl, hs, hg⟩
  have HS := Lib.hid hs
  have HG := Lib.hid hg
  clear hs hg
  go_wp2_with fail
  go_end0
  exact ⟨rfl, HS.out, grown_then (draws_grown w 1) (grown_then (setCell_grown _) HG.out)⟩

/-- the call takes in the whole eights, and hands back what is left behind them -/
def EightsW (T : TypeId) (b : Nat) (X : Value) (s : St) (bs : List UInt8) (w : World) (e : Ending) (w' : World) : Prop :=
  ∃ A n c, e = .returned (.slice A n c) ∧ RdF w b A n c (rest8 bs) ∧ WrAt w' T b X (eightsS s bs) ∧ w.grownBy w' (some b)

set_option maxRecDepth 100000 in
set_option maxHeartbeats 1000000 in
theorem eights1_c (w : World) (A : Option Addr) (n c : Nat) (bs : List UInt8) (b : Nat) (T : TypeId) (X : Value) (h0 : Hid (RdF w b A n c bs)) (s : St) (h : Hid (WrAt w T b X s)) :
    Calls Try.prog 47 #[.pointer (some ⟨b, 1, none⟩), .slice A n c] w (EightsW T b X s bs w) := by
  go_enter Try.func47, Try.ntmps47
  go_wp2_with fail
  go_loopw [1] (fun sv wr => ∃ (A' : Option Addr) (n' c' : Nat) (cs : List UInt8) (z : St), sv = .slice A' n' c' ∧ Hid (RdF w b A' n' c' cs) ∧ Hid (rest8 cs = rest8 bs) ∧ Hid (eightsS z cs = eightsS s bs) ∧ Hid (WrAt wr T b X z) ∧ Hid (w.grownBy wr (some b))) (fun sv _ => match sv with | .slice _ n _ => n | _ => 0)
  case atStart => exact ⟨A, n, c, bs, s, rfl, h0.out, rfl, rfl, h.out, World.grownBy.refl _ _⟩
  case round =>
    obtain ⟨A', n', c', cs, z, rfl, HR, HE, HS, S, G⟩ := hrel
    have hl := HR.out.now.len
    have HL := Lib.hid hl
    have hle := HR.out.now.le
    have hmax := HR.out.now.max
    by_cases h8 : 8 ≤ n'
    · have h8I : (8 : Int) ≤ (n' : Int) := by omega
      have h8c : (8 : Int) ≤ (c' : Int) := by omega
      obtain ⟨y, hy⟩ : ∃ y, y = num8 (cs.take 8) := ⟨_, rfl⟩
      have ly : y < 18446744073709551616 := by rw [hy]; exact take8_lt cs
      have HE2 : Hid (rest8 (cs.drop 8) = rest8 bs) := by rw [← HE.out]; exact (rest8_on (by omega)).symm
      have HS2 : Hid (eightsS (takeN z y) (cs.drop 8) = eightsS s bs) := by rw [hy, ← HS.out]; exact (eightsS_on (by omega)).symm
      obtain ⟨b0, o, rfl, _, c0, c1, c2, c3, c4, c5, c6, c7⟩ := (HR.out _ G.out).eight h8
      rw [← hy] at c0 c1 c2 c3 c4 c5 c6 c7
      clear hy hl
      by_cases hc8 : c' = 8
      · obtain rfl := hc8
        obtain rfl : n' = 8 := by omega
        have R2 : Hid (RdF w b (some ⟨b0, o, none⟩) 0 0 (cs.drop 8)) := fun v hv => (HR.out v hv).none8
        have EA := array_at (P := Try.prog) Try.underlying31 (some ⟨b0, o, none⟩) 8
        go_wp2_with fail
        refine (num_c _ y ly).mono ?_
        rintro e w1 ⟨rfl, hb1⟩
        replace S := Lib.hid (S.out.keep hb1)
        replace G := Lib.hid (grownBy_more G.out hb1)
        clear hb1 c0 c1 c2 c3 c4 c5 c6 c7
        go_wp2_with fail
        refine (take1_c _ _ _ _ _ y ly S).mono ?_
        rintro e w2 ⟨rfl, hs, hg⟩
        replace G := Lib.hid (grown_then G.out hg)
        have S2 := Lib.hid hs
        clear hs hg S
        go_wp2_with fail
        exact ⟨⟨_, _, _, _, _, rfl, R2.out, HE2.out, HS2.out, S2.out, G.out⟩, (by show 0 < 8; omega)⟩
      · have R2 : Hid (RdF w b (some ⟨b0, o + 8, none⟩) (n' - 8) (c' - 8) (cs.drop 8)) := fun v hv => (HR.out v hv).behind h8
        have EA := array_at (P := Try.prog) Try.underlying31 (some ⟨b0, o, none⟩) c'
        have hz : ¬ ((c' : Int) = 8) := by omega
        go_wp2_with fail
        refine (num_c _ y ly).mono ?_
        rintro e w1 ⟨rfl, hb1⟩
        replace S := Lib.hid (S.out.keep hb1)
        replace G := Lib.hid (grownBy_more G.out hb1)
        clear hb1 c0 c1 c2 c3 c4 c5 c6 c7
        go_wp2_with fail
        refine (take1_c _ _ _ _ _ y ly S).mono ?_
        rintro e w2 ⟨rfl, hs, hg⟩
        replace G := Lib.hid (grown_then G.out hg)
        have S2 := Lib.hid hs
        clear hs hg S
        go_wp2_with fail
        exact ⟨⟨_, _, _, _, _, rfl, R2.out, HE2.out, HS2.out, S2.out, G.out⟩, (by show n' - 8 < n'; omega)⟩
    · have h8I : ¬ (8 : Int) ≤ (n' : Int) := by omega
      have E1 : Hid (rest8 bs = cs) := by show rest8 bs = cs; rw [← HE.out]; exact rest8_end (by omega)
      have E2 : Hid (eightsS s bs = z) := by show eightsS s bs = z; rw [← HS.out]; exact eightsS_end (by omega)
      clear hl
      go_wp2_with fail
      go_ret
      exact ⟨_, _, _, rfl, by rw [E1.out]; exact HR.out, by rw [E2.out]; exact S.out, G.out⟩
#print axioms eights1_c
end Go.Proofs.Ytdejlahgeckobaa
