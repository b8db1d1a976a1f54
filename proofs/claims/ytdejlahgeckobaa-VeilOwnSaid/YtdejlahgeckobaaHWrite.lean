/-
  hash: NewWriter, Write, Sum: contracts.
-/
import Derived.Test.YtdejlahgeckobaaHWr
import Derived.Test.YtdejlahgeckobaaHEnd
import Derived.Test.YtdejlahgeckobaaHStrmR
namespace Go.Proofs.Ytdejlahgeckobaa
open Go.RowKit

theorem eightsN_add : ∀ (k j : Nat) (s : St) (l : List UInt8), eightsN (k + j) s l = eightsN j (eightsN k s l) (l.drop (8 * k))
  | 0, j, s, l => by simp [eightsN]
  | k + 1, j, s, l => by
    rw [show k + 1 + j = (k + j) + 1 by omega]
    show eightsN (k + j) _ _ = eightsN j (eightsN k _ _) _
    rw [eightsN_add k j, List.drop_drop, show 8 + 8 * k = 8 * (k + 1) by omega]
theorem eightsN_app : ∀ (k : Nat) (s : St) (l m : List UInt8), 8 * k ≤ l.length → eightsN k s (l ++ m) = eightsN k s l
  | 0, _, _, _, _ => rfl
  | k + 1, s, l, m, h => by
    show eightsN k _ _ = eightsN k _ _
    rw [List.take_append_of_le_length (by omega), List.drop_append_of_le_length (by omega), eightsN_app k _ _ m (by rw [List.length_drop]; omega)]
theorem eightsS_more (s : St) (l m : List UInt8) : eightsS (eightsS s l) ((l ++ m).drop (l.length - l.length % 8)) = eightsS s (l ++ m) := by
  have hk : l.length - l.length % 8 = 8 * (l.length / 8) := by omega
  unfold eightsS
  rw [hk, List.length_drop, List.length_append]
  have e : (l.length + m.length) / 8 = l.length / 8 + (l.length + m.length - 8 * (l.length / 8)) / 8 := by omega
  conv => rhs; rw [e, eightsN_add, eightsN_app _ _ _ _ (by omega)]

/-- a slice from place t on -/
theorem Rd.from1 {w : World} {b o n c : Nat} {bs : List UInt8} (h : Rd w (some ⟨b, o, none⟩) n c bs) {t : Nat} (ht : t ≤ n) : Rd w (some ⟨b, o + t, none⟩) (n - t) (c - t) (bs.drop t) := by
  refine ⟨by rw [List.length_drop, h.len], by have := h.le; omega, by have := h.max; omega, fun h0 => ?_, fun e => by cases e⟩
  obtain ⟨b', o', hA, hb, hc⟩ := h.cells (by omega)
  injection hA with hA
  injection hA with e1 e2
  subst e1 e2
  refine ⟨b, o + t, rfl, hb, fun j hj => ?_⟩
  rw [Nat.add_assoc, hc (t + j) (by omega)]
  simp [List.getD, List.getElem?_drop]
theorem Rd.from0 {w : World} {A : Option Addr} {n : Nat} {bs : List UInt8} (h : Rd w A n n bs) : Rd w A 0 0 (bs.drop n) :=
  ⟨by rw [List.length_drop, h.len]; omega, by omega, by omega, fun h0 => absurd h0 (by omega), fun _ => rfl⟩
theorem Own.shape {w : World} {E : TypeId} {B : Nat} {A : Option Addr} {n c : Nat} {bs : List UInt8} (h : Own w E B A n c bs) : (A = none ∧ n = 0 ∧ c = 0) ∨ ∃ g, A = some ⟨g, 0, none⟩ ∧ B ≤ g ∧ g < w.heap.size ∧ n ≤ c := by
  rcases h.row.2 with ⟨hv, h1⟩ | ⟨g, cap, cur, hv, hb, hg, h1, h2, h3, h4⟩
  · injection hv with e1 e2 e3
    exact .inl ⟨e1, e2, e3⟩
  · injection hv with e1 e2 e3
    exact .inr ⟨g, e1, hb, (Array.getElem?_eq_some_iff.1 hg).1, by omega⟩

/-- the Writer in block b has these bytes, its row from block B on; the row lay in block r; it lies there still, or in a new one -/
def Wrote (T : TypeId) (B b : Nat) (r : Option Nat) (bs : List UInt8) (w : World) (e : Ending) (w' : World) : Prop :=
  ∃ A c, e = .returned (.tuple #[]) ∧ WrAt w' T b (.slice A bs.length c) (eightsS (begin 1) bs) ∧ Own w' 5 B A bs.length c bs ∧ (∀ g, (Value.slice A bs.length c).ownBlock = some g → r = some g ∨ w.heap.size ≤ g) ∧ ∃ v, w.grownBy v r ∧ v.grownBy w' (some b)

set_option maxRecDepth 100000 in
set_option maxHeartbeats 2000000 in
theorem write_g (w : World) (T : TypeId) (B b : Nat) (hB : B ≤ w.heap.size) (A : Option Addr) (n c : Nat) (bs : List UInt8) (h : Hid (WrAt w T b (.slice A n c) (eightsS (begin 1) bs))) (ho : Hid (Own w 5 B A n c bs))
    (hne0 : Hid (∀ g, (Value.slice A n c).ownBlock = some g → g ≠ b)) (A2 : Option Addr) (n2 c2 : Nat) (cs : List UInt8) (h2 : Hid (Rd w A2 n2 c2 cs)) (hn : n + n2 ≤ 1000000000) :
    Calls Try.prog 17 #[.pointer (some ⟨b, 0, none⟩), .slice A2 n2 c2] w (Wrote T B b (Value.slice A n c).ownBlock (bs ++ cs) w) := by
  have HL := Lib.hid ho.out.len
  have HL2 := Lib.hid h2.out.len
  have hle2 := h2.out.le
  have hmax2 := h2.out.max
  have hle := ho.out.rd.le
  have hmax := ho.out.max
  obtain ⟨t, ht⟩ : ∃ t, t = n - n % 8 := ⟨_, rfl⟩
  have tI : (n : Int) - (n : Int) % 8 = (t : Int) := by omega
  have tn : t ≤ n := by omega
  have HT := Lib.hid ht
  clear ht
  have hblk := h.out.blk
  have c0 : w.cell? ⟨b, 0, none⟩ = some (.slice A n c) := by rw [cell_of_row w b 0 _ _ _ hblk]; rfl
  have HB := Lib.hid hblk
  have OKB := Lib.hid h.out.ok
  clear hblk
  go_enter Try.func17, Try.ntmps17
  go_wp2_with fail
  go_quiet (fail)
  have BQ : Hid (Below B w (w.drewN nq)) := ⟨rfl, rfl, rfl, Nat.le_refl _, fun _ _ => rfl⟩
  have OQ : Hid (Own (w.drewN nq) 5 B A n c bs) := ho.out.ext ⟨rfl, rfl, rfl, Nat.le_refl _, fun _ _ => rfl⟩
  have RQ : Hid (Rd (w.drewN nq) A2 n2 c2 cs) := h2.out.ext ⟨rfl, rfl, rfl, Nat.le_refl _, fun _ _ => rfl⟩
  have HBQ : Hid ((w.drewN nq).heap[b]? = some (.cells #[.slice A n c, .int .u64 (eightsS (begin 1) bs).a, .int .u64 (eightsS (begin 1) bs).b, .int .u64 (eightsS (begin 1) bs).c, .int .u64 (eightsS (begin 1) bs).d] T (0, 0))) := HB.out
  have zB : B ≤ (w.drewN nq).heap.size := hB
  have zbq : b < (w.drewN nq).heap.size := (Array.getElem?_eq_some_iff.1 HBQ.out).1
  have GQ : Hid (w.grownBy (w.drewN nq) (Value.slice A n c).ownBlock) := draws_grown w nq
  have ZQ : Hid ((w.drewN nq).heap.size = w.heap.size) := rfl
  generalize w.drewN nq = wq at *
  have c0 : wq.cell? ⟨b, 0, none⟩ = some (.slice A n c) := by rw [cell_of_row wq b 0 _ _ _ HBQ.out]; rfl
  go_wp2_with (refine wpList_push_at (o := ⟨some 25, _, _, _, _, _⟩) rfl (.tmp 23) (.tmp 24) 22 22 rfl 5 Try.underlying22 infoU8 B A n c bs (by rfl) OQ.out _ n2 cs (by rfl) (RQ.out.src Try.underlying22) (by omega) zB ?_; intro A1 c1 w1 ho1 hb1 hg1 hat1; have G1 : Hid (wq.grownBy w1 (Value.slice A n c).ownBlock) := hg1; have AT : Hid (∀ g, (Value.slice A1 (n + n2) c1).ownBlock = some g → (Value.slice A n c).ownBlock = some g ∨ wq.heap.size ≤ g) := hat1; have O1 : Hid (Own w1 5 B A1 (n + n2) c1 (bs ++ cs)) := ho1; have B1 : Hid (Below B wq w1) := hb1; have HB1 : Hid (w1.heap[b]? = some (.cells #[.slice A n c, .int .u64 (eightsS (begin 1) bs).a, .int .u64 (eightsS (begin 1) bs).b, .int .u64 (eightsS (begin 1) bs).c, .int .u64 (eightsS (begin 1) bs).d] T (0, 0))) := (hg1.block b zbq (fun e => hne0.out b e.symm rfl)).trans HBQ.out; have f1 : w1.frozen? ⟨b, 0, none⟩ = false := (by simp [World.frozen?, HB1.out]); have c10 : w1.cell? ⟨b, 0, none⟩ = some (.slice A n c) := (by rw [cell_of_row w1 b 0 _ _ _ HB1.out]; rfl); clear ho1 hb1 hg1 hat1; go_simp)
  have G2 : Hid (w1.grownBy (w1.setCell ⟨b, 0, none⟩ (.slice A1 (n + n2) c1)) (some b)) := setCell_grown _
  have HNE : Hid (∀ g, (Value.slice A1 (n + n2) c1).ownBlock = some g → g ≠ b) := fun g hg => (AT.out g hg).elim (fun h1 => hne0.out g h1) (fun h1 => by omega)
  have W2 : Hid (WrAt (w1.setCell ⟨b, 0, none⟩ (.slice A1 (n + n2) c1)) T b (.slice A1 (n + n2) c1) (eightsS (begin 1) bs)) := ⟨heap_set_same (j := 0) _ HB1.out, OKB.out⟩
  have HN : Hid ((bs ++ cs).length = n + n2) := by show _ = _; rw [List.length_append, HL.out, HL2.out]
  have HE : Hid (eightsS (eightsS (begin 1) bs) ((bs ++ cs).drop t) = eightsS (begin 1) (bs ++ cs)) := by show _ = _; rw [HT.out, ← HL.out]; exact eightsS_more _ _ _
  have RF : Hid (RdF (w1.setCell ⟨b, 0, none⟩ (.slice A1 (n + n2) c1)) b A1 (n + n2) c1 (bs ++ cs)) := fun v hv => (O1.out.keptNe (grown_then G2.out hv) HNE.out).rd
  have B0 := BQ
  have hle3 := RF.out.now.le
  have hmax3 := RF.out.now.max
  have hsh := O1.out.shape
  clear c0 f1 c10 HB HBQ HB1 OQ RQ h ho h2 BQ
  generalize w1.setCell ⟨b, 0, none⟩ (.slice A1 (n + n2) c1) = w2 at *
  have c20 : w2.cell? ⟨b, 0, none⟩ = some (.slice A1 (n + n2) c1) := by rw [cell_of_row w2 b 0 _ _ _ W2.out.blk]; rfl
  have tL : (t : Int) ≤ ((n : Int) + (n2 : Int)) := by omega
  have t0 : (0 : Int) ≤ (t : Int) := by omega
  rcases hsh with ⟨rfl, hn0, rfl⟩ | ⟨g, rfl, hg1, hg2, hg3⟩
  · obtain rfl : n = 0 := by omega
    obtain rfl : n2 = 0 := by omega
    obtain rfl : t = 0 := by omega
    have RF2 : Hid (RdF w2.drew b none 0 0 ((bs ++ cs).drop 0)) := fun v hv => RF.out v (grown_then (draws_grown w2 1) hv)
    replace W2 : Hid (WrAt w2.drew T b (.slice none (0 + 0) 0) (eightsS (begin 1) bs)) := ⟨W2.out.blk, W2.out.ok⟩
    go_still_tail 9, (by kernel_rfl)
    change wpList _ _ _ _ _ w2.drew
    go_wp2_with fail
    refine (eights1_c _ _ _ _ _ _ _ _ RF2 _ W2).mono ?_
    rintro e w3 ⟨A3, n3, c3, rfl, _, hw, hg⟩
    have HW := Lib.hid hw
    have HG := Lib.hid hg
    clear hw hg
    go_wp2_with fail
    go_end0
    have GG : w1.grownBy w3 (some b) := grown_then G2.out (grown_then (draws_grown w2 1) HG.out)
    exact ⟨_, _, rfl, by rw [HN.out, ← HE.out]; exact HW.out, by rw [HN.out]; exact O1.out.keptNe GG (HNE.out), by rw [HN.out, ← ZQ.out]; exact AT.out, w1, grown_then GQ.out G1.out, GG⟩
  · by_cases htc : t < c1
    · have tI2 : (t : Int) < (c1 : Int) := by omega
      have RF2 : Hid (RdF w2.drew b (some ⟨g, 0 + t, none⟩) (n + n2 - t) (c1 - t) ((bs ++ cs).drop t)) := fun v hv => (RF.out v (grown_then (draws_grown w2 1) hv)).from1 (by omega)
      replace W2 : Hid (WrAt w2.drew T b (.slice (some ⟨g, 0, none⟩) (n + n2) c1) (eightsS (begin 1) bs)) := ⟨W2.out.blk, W2.out.ok⟩
      rw [Nat.zero_add] at RF2
      go_still_tail 9, (by kernel_rfl)
      change wpList _ _ _ _ _ w2.drew
      go_wp2_with fail
      refine (eights1_c _ _ _ _ _ _ _ _ RF2 _ W2).mono ?_
      rintro e w3 ⟨A3, n3, c3, rfl, _, hw, hg⟩
      have HW := Lib.hid hw
      have HG := Lib.hid hg
      clear hw hg
      go_wp2_with fail
      go_end0
      have GG : w1.grownBy w3 (some b) := grown_then G2.out (grown_then (draws_grown w2 1) HG.out)
      exact ⟨_, _, rfl, by rw [HN.out, ← HE.out]; exact HW.out, by rw [HN.out]; exact O1.out.keptNe GG (HNE.out), by rw [HN.out, ← ZQ.out]; exact AT.out, w1, grown_then GQ.out G1.out, GG⟩
    · obtain rfl : t = c1 := by omega
      obtain hnt : n + n2 = t := by omega
      have RF2 : Hid (RdF w2.drew b (some ⟨g, 0, none⟩) 0 0 ((bs ++ cs).drop t)) := fun v hv => Rd.from0 (by have := RF.out v (grown_then (draws_grown w2 1) hv); rw [hnt] at this; exact this)
      replace W2 : Hid (WrAt w2.drew T b (.slice (some ⟨g, 0, none⟩) (n + n2) t) (eightsS (begin 1) bs)) := ⟨W2.out.blk, W2.out.ok⟩
      rw [hnt] at c20 W2 HN O1 HNE AT
      go_still_tail 9, (by kernel_rfl)
      change wpList _ _ _ _ _ w2.drew
      go_wp2_with fail
      refine (eights1_c _ _ _ _ _ _ _ _ RF2 _ W2).mono ?_
      rintro e w3 ⟨A3, n3, c3, rfl, _, hw, hg⟩
      have HW := Lib.hid hw
      have HG := Lib.hid hg
      clear hw hg
      go_wp2_with fail
      go_end0
      have GG : w1.grownBy w3 (some b) := grown_then G2.out (grown_then (draws_grown w2 1) HG.out)
      exact ⟨_, _, rfl, by rw [HN.out, ← HE.out]; exact HW.out, by rw [HN.out]; exact O1.out.keptNe GG (HNE.out), by rw [HN.out, ← ZQ.out]; exact AT.out, w1, grown_then GQ.out G1.out, GG⟩
#print axioms write_g

theorem write_c (w : World) (T : TypeId) (B b : Nat) (hb : b < B) (hB : B ≤ w.heap.size) (A : Option Addr) (n c : Nat) (bs : List UInt8) (h : Hid (WrAt w T b (.slice A n c) (eightsS (begin 1) bs))) (ho : Hid (Own w 5 B A n c bs))
    (A2 : Option Addr) (n2 c2 : Nat) (cs : List UInt8) (h2 : Hid (Rd w A2 n2 c2 cs)) (hn : n + n2 ≤ 1000000000) :
    Calls Try.prog 17 #[.pointer (some ⟨b, 0, none⟩), .slice A2 n2 c2] w (Wrote T B b (Value.slice A n c).ownBlock (bs ++ cs) w) :=
  write_g w T B b hB A n c bs h ho (fun g hg => by have := (ho.out.row.lt g hg).1; omega) A2 n2 c2 cs h2 hn
#print axioms write_c
end Go.Proofs.Ytdejlahgeckobaa
