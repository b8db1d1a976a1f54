/-
  hash: takeEights: the contract.
-/
import Derived.Test.YtbejjmmopdcjoaaDoorHByt0
namespace Go.Proofs.YtbejjmmopdcjoaaDoor
open Go.RowKit

/-- the cells of a slice's first eight, as a walk spells them -/
theorem Rd.eight {w : World} {A : Option Addr} {n c : Nat} {bs : List UInt8} (h : Rd w A n c bs) (hn : 8 ≤ n) : ∃ b o, A = some ⟨b, o, none⟩ ∧ b < w.heap.size ∧
    w.cell? ⟨b, o, none⟩ = some (.int .u8 (byt (num8 (bs.take 8)) 0)) ∧ w.cell? ⟨b, o + 1, none⟩ = some (.int .u8 (byt (num8 (bs.take 8)) 1)) ∧ w.cell? ⟨b, o + 2, none⟩ = some (.int .u8 (byt (num8 (bs.take 8)) 2)) ∧ w.cell? ⟨b, o + 3, none⟩ = some (.int .u8 (byt (num8 (bs.take 8)) 3)) ∧
    w.cell? ⟨b, o + 4, none⟩ = some (.int .u8 (byt (num8 (bs.take 8)) 4)) ∧ w.cell? ⟨b, o + 5, none⟩ = some (.int .u8 (byt (num8 (bs.take 8)) 5)) ∧ w.cell? ⟨b, o + 6, none⟩ = some (.int .u8 (byt (num8 (bs.take 8)) 6)) ∧ w.cell? ⟨b, o + 7, none⟩ = some (.int .u8 (byt (num8 (bs.take 8)) 7)) := by
  obtain ⟨b, o, hA, hb, hc⟩ := h.cells (by omega)
  have q : ∀ j, j < 8 → w.cell? ⟨b, o + j, none⟩ = some (.int .u8 (byt (num8 (bs.take 8)) j)) := fun j hj => by
    rw [hc j (by omega), byt_num8]
    have : (bs.take 8).getD j 0 = bs.getD j 0 := by simp [List.getD, hj]
    rw [this]
  exact ⟨b, o, hA, hb, q 0 (by omega), q 1 (by omega), q 2 (by omega), q 3 (by omega), q 4 (by omega), q 5 (by omega), q 6 (by omega), q 7 (by omega)⟩
theorem Rd.behind {w : World} {b o n c : Nat} {bs : List UInt8} (h : Rd w (some ⟨b, o, none⟩) n c bs) (hn : 8 ≤ n) : Rd w (some ⟨b, o + 8, none⟩) (n - 8) (c - 8) (bs.drop 8) := by
  refine ⟨by rw [List.length_drop, h.len], by have := h.le; omega, by have := h.max; omega, fun h0 => ?_, fun e => by cases e⟩
  obtain ⟨b', o', hA, hb, hc⟩ := h.cells (by omega)
  injection hA with hA
  injection hA with e1 e2
  subst e1 e2
  refine ⟨b, o + 8, rfl, hb, fun j hj => ?_⟩
  rw [Nat.add_assoc, hc (8 + j) (by omega)]
  simp [List.getD, List.getElem?_drop]
theorem Rd.none8 {w : World} {b o : Nat} {bs : List UInt8} (h : Rd w (some ⟨b, o, none⟩) 8 8 bs) : Rd w (some ⟨b, o, none⟩) 0 0 (bs.drop 8) :=
  ⟨by rw [List.length_drop, h.len], by omega, by omega, fun h0 => by omega, fun e => by cases e⟩

theorem array_at {P : Program} {arr e : TypeId} {n : Nat} (h : P.underlying arr = some (.array n e)) (a : Option Addr) (c : Nat) (w : World) : (Instr.arrayAt arr (.slice a n c)).run P w = .ok (.pointer a) w := by
  simp [Instr.arrayAt, run_underlying h]

/-- the slice reads so whatever becomes of block b -/
def RdF (w : World) (b : Nat) (A : Option Addr) (n c : Nat) (bs : List UInt8) : Prop := ∀ v, w.grownBy v (some b) → Rd v A n c bs
theorem RdF.now {w : World} {b : Nat} {A : Option Addr} {n c : Nat} {bs : List UInt8} (h : RdF w b A n c bs) : Rd w A n c bs := h w (World.grownBy.refl _ _)
theorem RdF.then {w w' : World} {b : Nat} {A : Option Addr} {n c : Nat} {bs : List UInt8} (h : RdF w b A n c bs) (g : w.grownBy w' (some b)) : RdF w' b A n c bs := fun v hv => h v (grown_then g hv)
/-- a slice that was there ahead of the block -/
theorem RdF.old {w0 w : World} {b : Nat} {A : Option Addr} {n c : Nat} {bs : List UInt8} (h : Rd w0 A n c bs) (hB : Below w0.heap.size w0 w) (hb : w0.heap.size ≤ b) : RdF w b A n c bs :=
  fun _ hv => h.ext (hB.grown hv hB.size (fun k hk => by injection hk with hk; omega))

/-- the call takes in the whole eights, and hands back what is left behind them -/
def Eights (T : TypeId) (b : Nat) (s : St) (bs : List UInt8) (w : World) (e : Ending) (w' : World) : Prop :=
  ∃ A n c, e = .returned (.slice A n c) ∧ RdF w b A n c (rest8 bs) ∧ StAt w' T b (eightsS s bs) ∧ w.grownBy w' (some b)

theorem grownBy_more {w a c : World} {row : Option Nat} (h : w.grownBy a row) (k : Below a.heap.size a c) : w.grownBy c row :=
  ⟨k.os.trans h.os, k.tape.trans h.tape, k.output.trans h.output, Nat.le_trans h.size k.size, fun i hi hk => (k.block i (Nat.lt_of_lt_of_le hi h.size)).trans (h.block i hi hk)⟩
theorem below_of_grown {B : Nat} {w0 w w' : World} {b : Nat} (h : Below B w0 w) (hB : B ≤ w0.heap.size) (hb : B ≤ b) (g : w.grownBy w' (some b)) : Below B w0 w' :=
  h.grown g (Nat.le_trans hB h.size) (fun k hk => by injection hk with hk; omega)

set_option maxRecDepth 100000 in
set_option maxHeartbeats 1000000 in
theorem eights_c (w : World) (A : Option Addr) (n c : Nat) (bs : List UInt8) (b : Nat) (h0 : Hid (RdF w b A n c bs)) (s : St) (h : Hid (StAt w 95 b s)) :
    Calls Tryd.prog 68 #[.pointer (some ⟨b, 0, none⟩), .slice A n c] w (Eights 95 b s bs w) := by
  go_enter Tryd.func68, Tryd.ntmps68
  go_wp2_with fail
  go_loopw [1] (fun sv wr => ∃ (A' : Option Addr) (n' c' : Nat) (cs : List UInt8) (z : St), sv = .slice A' n' c' ∧ Hid (RdF w b A' n' c' cs) ∧ Hid (rest8 cs = rest8 bs) ∧ Hid (eightsS z cs = eightsS s bs) ∧ Hid (StAt wr 95 b z) ∧ Hid (w.grownBy wr (some b))) (fun sv _ => match sv with | .slice _ n _ => n | _ => 0)
  case atStart => exact ⟨A, n, c, bs, s, rfl, h0.out, rfl, rfl, h.out, World.grownBy.refl _ _⟩
  case round =>
    obtain ⟨A', n', c', cs, z, rfl, HR, HE, HS, S, G⟩ := hrel
    have hl := HR.out.now.len
    have HL := Lib.hid hl
    have hle := HR.out.now.le
    have hmax := HR.out.now.max
    by_cases h8 : 8 ≤ n'
    · have h8I : (8 : Int) ≤ (n' : Int) := by omega
      have h8c : (8 : Int) ≤ (c' : Int) := by omega
      obtain ⟨y, hy⟩ : ∃ y, y = num8 (cs.take 8) := ⟨_, rfl⟩
      have ly : y < 18446744073709551616 := by rw [hy]; exact take8_lt cs
      have HE2 : Hid (rest8 (cs.drop 8) = rest8 bs) := by rw [← HE.out]; exact (rest8_on (by omega)).symm
      have HS2 : Hid (eightsS (takeN z y) (cs.drop 8) = eightsS s bs) := by rw [hy, ← HS.out]; exact (eightsS_on (by omega)).symm
      obtain ⟨b0, o, rfl, _, c0, c1, c2, c3, c4, c5, c6, c7⟩ := (HR.out _ G.out).eight h8
      rw [← hy] at c0 c1 c2 c3 c4 c5 c6 c7
      clear hy hl
      by_cases hc8 : c' = 8
      · obtain rfl := hc8
        obtain rfl : n' = 8 := by omega
        have R2 : Hid (RdF w b (some ⟨b0, o, none⟩) 0 0 (cs.drop 8)) := fun v hv => (HR.out v hv).none8
        have EA := array_at (P := Tryd.prog) Tryd.underlying26 (some ⟨b0, o, none⟩) 8
        go_wp2_with fail
        refine (num_c _ y ly).mono ?_
        rintro e w1 ⟨rfl, hb1⟩
        replace S := Lib.hid (S.out.keep hb1)
        replace G := Lib.hid (grownBy_more G.out hb1)
        clear hb1 c0 c1 c2 c3 c4 c5 c6 c7
        go_wp2_with fail
        refine (take_c _ _ _ y ly S).mono ?_
        rintro e w2 ⟨rfl, hs, hg⟩
        replace G := Lib.hid (grown_then G.out hg)
        have S2 := Lib.hid hs
        clear hs hg S
        go_wp2_with fail
        exact ⟨⟨_, _, _, _, _, rfl, R2.out, HE2.out, HS2.out, S2.out, G.out⟩, (by show 0 < 8; omega)⟩
      · have R2 : Hid (RdF w b (some ⟨b0, o + 8, none⟩) (n' - 8) (c' - 8) (cs.drop 8)) := fun v hv => (HR.out v hv).behind h8
        have EA := array_at (P := Tryd.prog) Tryd.underlying26 (some ⟨b0, o, none⟩) c'
        have hz : ¬ ((c' : Int) = 8) := by omega
        go_wp2_with fail
        refine (num_c _ y ly).mono ?_
        rintro e w1 ⟨rfl, hb1⟩
        replace S := Lib.hid (S.out.keep hb1)
        replace G := Lib.hid (grownBy_more G.out hb1)
        clear hb1 c0 c1 c2 c3 c4 c5 c6 c7
        go_wp2_with fail
        refine (take_c _ _ _ y ly S).mono ?_
        rintro e w2 ⟨rfl, hs, hg⟩
        replace G := Lib.hid (grown_then G.out hg)
        have S2 := Lib.hid hs
        clear hs hg S
        go_wp2_with fail
        exact ⟨⟨_, _, _, _, _, rfl, R2.out, HE2.out, HS2.out, S2.out, G.out⟩, (by show n' - 8 < n'; omega)⟩
    · have h8I : ¬ (8 : Int) ≤ (n' : Int) := by omega
      have E1 : Hid (rest8 bs = cs) := by show rest8 bs = cs; rw [← HE.out]; exact rest8_end (by omega)
      have E2 : Hid (eightsS s bs = z) := by show eightsS s bs = z; rw [← HS.out]; exact eightsS_end (by omega)
      clear hl
      go_wp2_with fail
      go_ret
      exact ⟨_, _, _, rfl, by rw [E1.out]; exact HR.out, by rw [E2.out]; exact S.out, G.out⟩
#print axioms eights_c
end Go.Proofs.YtbejjmmopdcjoaaDoor
