/-
  hash: what a stream's bytes are; a row of bytes that stays where it is.
-/
import Derived.Test.YtbejjmmopdcjoaaDoorHChain
import Derived.Test.YtbejjmmopdcjoaaDoorMem2
import Derived.Laws.OwnMore
namespace Go.Proofs.YtbejjmmopdcjoaaDoor
open Go.RowKit

def bytesOf (x : Nat) : List UInt8 := [UInt8.ofNat (byt x 0), UInt8.ofNat (byt x 1), UInt8.ofNat (byt x 2), UInt8.ofNat (byt x 3), UInt8.ofNat (byt x 4), UInt8.ofNat (byt x 5), UInt8.ofNat (byt x 6), UInt8.ofNat (byt x 7)]
theorem byt_lt (x i : Nat) : byt x i < 256 := Nat.mod_lt _ (by omega)
theorem byt_nat (x i : Nat) : (UInt8.ofNat (byt x i)).toNat = byt x i := by
  have := byt_lt x i
  simp [UInt8.toNat_ofNat']
  omega
theorem U8_bytesOf (x : Nat) : U8 (bytesOf x) = [.int .u8 (byt x 0), .int .u8 (byt x 1), .int .u8 (byt x 2), .int .u8 (byt x 3), .int .u8 (byt x 4), .int .u8 (byt x 5), .int .u8 (byt x 6), .int .u8 (byt x 7)] := by
  simp only [U8, bytesOf, List.map_cons, List.map_nil, byt_nat]
def iterS : Nat → St → St
  | 0, s => s
  | k + 1, s => stir (iterS k s)
theorem iterS_ok {s : St} (h : s.Ok) : ∀ k, (iterS k s).Ok
  | 0 => h
  | k + 1 => stir_ok (iterS_ok h k)
def strm (s : St) : Nat → List UInt8
  | 0 => []
  | k + 1 => strm s k ++ bytesOf (outN (iterS k s))
theorem strm_len (s : St) : ∀ k, (strm s k).length = 8 * k
  | 0 => rfl
  | k + 1 => by rw [strm, List.length_append, strm_len s k]; simp [bytesOf]; omega
theorem strm_more (s : St) (k : Nat) : ∀ m, (strm s (k + m)).take (8 * k) = strm s k
  | 0 => by rw [Nat.add_zero, List.take_of_length_le (by rw [strm_len]; omega)]
  | m + 1 => by
    show (strm s (k + m) ++ bytesOf (outN (iterS (k + m) s))).take (8 * k) = strm s k
    rw [List.take_append_of_le_length (by rw [strm_len]; omega)]
    exact strm_more s k m
theorem strm_take {s : St} {n k m : Nat} (h : n ≤ 8 * k) (hkm : k ≤ m) : (strm s m).take n = (strm s k).take n := by
  obtain ⟨j, rfl⟩ := Nat.exists_eq_add_of_le hkm
  rw [← strm_more s k j, List.take_take, Nat.min_eq_left h]
/-- the first n bytes of the stream of a digest -/
def stream (d n : Nat) : List UInt8 := (strm (takeN (begin 6) d) ((n + 7) / 8)).take n
def streamI (d : Nat) (K : Int) : List UInt8 := if 1 ≤ K ∧ K ≤ 1048576 then stream d K.toNat else []
theorem stream_of {d n k : Nat} (h : n ≤ 8 * k) : (strm (takeN (begin 6) d) k).take n = stream d n := by
  unfold stream
  rcases Nat.le_total k ((n + 7) / 8) with hk | hk
  · rw [strm_take h hk]
  · rw [strm_take (k := (n + 7) / 8) (by omega) hk]
theorem stream_len (d n : Nat) : (stream d n).length = n := by
  unfold stream
  rw [List.length_take, strm_len]
  omega

theorem infoU8 : (Tryd.prog.info? 5).map (fun i => (i.zero, i.size, i.bytes)) = some (some (.int .u8 0), 1, 1) := by kernel_rfl

theorem Own.front {w : World} {E : TypeId} {B : Nat} {A : Option Addr} {n c : Nat} {bs : List UInt8} (h : Own w E B A n c bs) {m : Nat} (hm : m ≤ n) (hm0 : 0 < m) : Own w E B A m c (bs.take m) := by
  refine ⟨by rw [List.length_take, h.len]; omega, h.max, by rw [U8_length, List.length_take, h.len]; omega, ?_⟩
  rcases h.row.2 with ⟨hv, h1⟩ | ⟨g, cap, cur, hv, hb, hg, h1, h2, h3, h4⟩
  · omega
  · injection hv with e1 e2 e3
    subst e1 e3
    refine .inr ⟨g, c, cur, rfl, hb, hg, by omega, h2, h3, ?_⟩
    rw [show U8 (bs.take m) = (U8 bs).take m by simp [U8, List.map_take], ← h4, List.take_take, Nat.mul_one, Nat.mul_one, Nat.min_eq_left hm]

/-- append(own, y...) where there is room: the row stays where it is -/
theorem wpList_push_room {P : Program} {w : World} {ops : Array Oper} {rest : List Oper} {o : Oper} {a : Act} {Q : Exit → Act → World → Prop} (hgd : o.guard = none) (s x : Operand) (t tx : TypeId)
    (ho : o.op = .call { callee := .builtin .append, args := #[s, x], argTypes := #[t, tx] }) (E : TypeId) (ht : P.underlying t = some (.slice E)) (hinfo : (P.info? E).map (fun i => (i.zero, i.size, i.bytes)) = some (some (.int .u8 0), 1, 1))
    (B g n c : Nat) (bs : List UInt8) (hs : a.eval s = .slice (some ⟨g, 0, none⟩) n c) (hown : Own w E B (some ⟨g, 0, none⟩) n c bs) (y : Value) (m : Nat) (cs : List UInt8) (hx : a.eval x = y) (hsrc : Src P 1 tx y m (U8 cs) w)
    (hn : n + m ≤ c)
    (h : ∀ w', Own w' E B (some ⟨g, 0, none⟩) (n + m) c (bs ++ cs) → w.grownBy w' (some g) → wpList P ops Q rest (a.put o.dst (.slice (some ⟨g, 0, none⟩) (n + m) c)) w') : wpList P ops Q (o :: rest) a w := by
  obtain ⟨i, hi, hz0, hz1, hz2⟩ := info_parts hinfo
  have hm : cs.length = m := by have := hsrc.newsLen; rw [U8_length] at this; omega
  rcases hown.row.2 with ⟨hv, _⟩ | ⟨g', cap, cur, hv, hbg, hg, hnc, hcm, hcs, htake⟩
  · cases hv
  injection hv with e1 e2 e3
  injection e1 with e1
  injection e1 with e1
  subst e1 e3
  have hcell : ∀ j, j < c → (w.cell? ⟨g, j, none⟩).isSome = true := fun j hj => by
    rw [cell_of_row w g j cur E (0, 0) hg]
    simp; omega
  have hfr : ∀ j, w.frozen? ⟨g, j, none⟩ = false := fun j => World.ownsRow.frozenAt hown.row j
  have hl : (U8 cs).length = m := by rw [U8_length, hm]
  have hr := run_append_room_src (P := P) (w := w) t tx o.type E i ht hi g 0 n c y m (U8 cs) (by rw [hz1]; exact hsrc) hn
    (fun j hj => hcell _ (by rw [hz1]; omega)) (fun j hj => hfr _)
  have hst := run_storeCells_at P g n E (U8 cs) 0 cur w hg (by omega) hsrc.one
  have hst2 := run_storeCells_cells (P := P) g n (U8 cs) 0 w (by intro j hj; exact hcell _ (by omega)) (by intro j _; exact hfr _) hsrc.one
  simp only [Nat.add_zero] at hst hst2
  have heq := hst.symm.trans hst2
  injection heq with _ heq
  rw [hz1, Nat.mul_one, Nat.zero_add, ← heq] at hr
  refine wpList_plain hgd fun K hK => ?_
  unfold Oper.wp execOp
  simp only [ho, resolve, invoke, builtin, Sem.run_bind, Sem.run_pure, Result.andThen_ok, List.map_toArray, List.map_cons, List.map_nil, hs, hx, hr]
  refine hK _ _ (h _ ⟨by rw [List.length_append, hown.len, hm], hown.max, ⟨by rw [U8_length, List.length_append, hown.len, hm]; omega, .inr ⟨g, c, _, rfl, hbg, setRow_heap w g cur _ E _ hg, hn, hcm, ?_, ?_⟩⟩⟩ ⟨rfl, rfl, rfl, by simp, fun k _ hk => setRow_other w g k _ (fun e => hk (by rw [e]))⟩)
  · have := hown.len
    simp only [List.size_toArray, List.length_append, List.length_take, List.length_drop, Array.length_toList]
    omega
  · have h1 : cur.toList.take n = U8 bs := by simpa using htake
    simp only [h1]
    rw [U8_append, show (n + m) * 1 = (U8 bs ++ U8 cs).length by rw [List.length_append, U8_length, U8_length, hown.len, hm]; omega]
    exact List.take_left
#print axioms wpList_push_room
end Go.Proofs.YtbejjmmopdcjoaaDoor
