/-
  What is said of slices of bytes in memory: a slice that came in (Rd), one of the call's own (Own), and the law of an append onto one's own row from whatever source. No program is named here.
-/
import Derived.WalkKit
import Derived.Deep.AppendSrc
import Derived.OpenShut
import Derived.Deep.Draws
import Derived.Laws.CopyOwn
namespace Go.Proofs.YtbeileihbhooaaaDoor
open Go.RowKit

theorem unhide {p : Prop} (h : Hid p) : p := h

/-- bytes, as cells -/
def U8 (bs : List UInt8) : List Value := bs.map fun b => Value.int .u8 b.toNat
theorem U8_length (bs : List UInt8) : (U8 bs).length = bs.length := by simp [U8]
theorem U8_append (a b : List UInt8) : U8 (a ++ b) = U8 a ++ U8 b := by simp [U8]
theorem U8_one (bs : List UInt8) : ∀ u ∈ U8 bs, u.oneCell' = true := by
  intro u hu
  obtain ⟨_, _, rfl⟩ := List.mem_map.1 hu
  rfl
theorem U8_get {bs : List UInt8} {j : Nat} (h : j < bs.length) : (U8 bs)[j]? = some (.int .u8 (bs[j]).toNat) := by
  simp [U8, h]
theorem U8_getD {bs : List UInt8} {j : Nat} (h : j < bs.length) : (U8 bs)[j]? = some (.int .u8 (bs.getD j 0).toNat) := by
  simp [U8, h]

/-- the world has at most new blocks -/
theorem ext_trans {w a b : World} (h : Below w.heap.size w a) (k : Below a.heap.size a b) : Below w.heap.size w b := h.trans (k.mono h.size)

theorem below_grown {B : Nat} {w a b : World} {row : Option Nat} (h : Below B w a) (hB : B ≤ a.heap.size) (hg : a.grownBy b row) (hr : ∀ k, row = some k → B ≤ k) : Below B w b := h.grown hg hB hr
theorem grown_of_below {w w' : World} (h : Below w.heap.size w w') : w.grownBy w' none := ⟨h.os, h.tape, h.output, h.size, fun k hk _ => h.block k hk⟩

/-- a slice that reads as these bytes; it may be nil -/
structure Rd (w : World) (A : Option Addr) (n c : Nat) (bs : List UInt8) : Prop where
  len : bs.length = n
  le : n ≤ c
  max : c ≤ 9223372036854775807
  cells : 0 < n → ∃ b o, A = some ⟨b, o, none⟩ ∧ b < w.heap.size ∧ ∀ j, j < n → w.cell? ⟨b, o + j, none⟩ = some (.int .u8 (bs.getD j 0).toNat)
  none_ : A = none → c = 0

theorem Rd.ext {w w' : World} {A : Option Addr} {n c : Nat} {bs : List UInt8} (h : Rd w A n c bs) (k : Below w.heap.size w w') : Rd w' A n c bs :=
  ⟨h.len, h.le, h.max, fun hn => by
    obtain ⟨b, o, hA, hb, hc⟩ := h.cells hn
    exact ⟨b, o, hA, Nat.lt_of_lt_of_le hb k.size, fun j hj => (k.cell (p := ⟨b, o + j, none⟩) hb).trans (hc j hj)⟩, h.none_⟩
theorem Rd.nil (w : World) : Rd w none 0 0 [] := ⟨rfl, Nat.le_refl _, by omega, fun h => absurd h (by omega), fun _ => rfl⟩
theorem Rd.front {w : World} {A : Option Addr} {n c : Nat} {bs : List UInt8} (h : Rd w A n c bs) {m : Nat} (hm : m ≤ n) : Rd w A m c (bs.take m) :=
  ⟨by rw [List.length_take, h.len]; omega, Nat.le_trans hm h.le, h.max, fun h0 => by
    obtain ⟨b, o, hA, hb, hc⟩ := h.cells (by omega)
    refine ⟨b, o, hA, hb, fun j hj => ?_⟩
    rw [hc j (by omega)]
    have e : (bs.take m).getD j 0 = bs.getD j 0 := by simp [List.getD, hj]
    rw [e], h.none_⟩

/-- a slice of the call's own, from block B on, that holds these bytes -/
structure Own (w : World) (E : TypeId) (B : Nat) (A : Option Addr) (n c : Nat) (bs : List UInt8) : Prop where
  len : bs.length = n
  max : c ≤ 9223372036854775807
  row : w.ownsRow B E 1 (.slice A n c) n (U8 bs)

theorem Own.ext {w w' : World} {E : TypeId} {B : Nat} {A : Option Addr} {n c : Nat} {bs : List UInt8} (h : Own w E B A n c bs) (k : Below w.heap.size w w') : Own w' E B A n c bs :=
  ⟨h.len, h.max, h.row.kept (grown_of_below k) (by cases A <;> simp [Value.ownBlock])⟩

theorem ext_alloc (w : World) (o : Obj) : Below w.heap.size w (w.alloc o) := (Below.refl _ _).alloc (Nat.le_refl _) o
theorem ext_draws (w : World) (n : Nat) : Below w.heap.size w (w.drewN n) := ⟨rfl, rfl, rfl, Nat.le_refl _, fun _ _ => rfl⟩
theorem ext_drew (w : World) : Below w.heap.size w w.drew := ⟨rfl, rfl, rfl, Nat.le_refl _, fun _ _ => rfl⟩
theorem Rd.lit {w : World} {E : TypeId} {n : Nat} {bs : List UInt8} {vs : Array Value} (hn : bs.length = n) (hv : vs.toList = U8 bs) (hs : n ≤ 9223372036854775807) : Rd (w.alloc (.cells vs E)) (some ⟨w.heap.size, 0, none⟩) n n bs :=
  ⟨hn, Nat.le_refl _, hs, fun _ => ⟨w.heap.size, 0, rfl, by simp, fun j hj => by
    rw [cell_of_row _ w.heap.size (0 + j) vs E (0, 0) (Go.heap_alloc_new w _), ← Array.getElem?_toList, hv, Nat.zero_add]
    exact U8_getD (by omega)⟩, fun h => by cases h⟩
theorem Own.empty (w : World) (E : TypeId) : Own (w.alloc (.cells #[] E)) E w.heap.size (some ⟨w.heap.size, 0, none⟩) 0 0 [] :=
  ⟨rfl, by omega, World.ownsRow_made w #[] 0 (Nat.le_refl _) (by unfold maxLen; omega) rfl⟩
theorem ownsRow_form {w : World} {E : TypeId} {B : Nat} {v : Value} {n : Nat} {xs : List Value} (h : w.ownsRow B E 1 v n xs) : ∃ A c, v = .slice A n c ∧ n ≤ c ∧ (A = none → c = 0) := by
  rcases h.2 with ⟨rfl, rfl⟩ | ⟨g, cap, cur, rfl, _, _, hle, _⟩
  · exact ⟨none, 0, rfl, Nat.le_refl _, fun _ => rfl⟩
  · exact ⟨some ⟨g, 0, none⟩, cap, rfl, hle, fun h => by cases h⟩

theorem Own.rd {w : World} {E : TypeId} {B : Nat} {A : Option Addr} {n c : Nat} {bs : List UInt8} (h : Own w E B A n c bs) : Rd w A n c bs := by
  obtain ⟨A', c', hv, hle, hn⟩ := ownsRow_form h.row
  injection hv with e1 e2 e3
  subst e1 e3
  refine ⟨h.len, hle, h.max, fun h0 => ?_, hn⟩
  rcases h.row.2 with ⟨hv, h1⟩ | ⟨g, cap, cur, hv, hb, hg, h1, h2, h3, h4⟩
  · omega
  · injection hv with e1 e2 e3
    subst e1 e3
    refine ⟨g, 0, rfl, (Array.getElem?_eq_some_iff.1 hg).1, fun j hj => ?_⟩
    have := h.row.cells (g := g) rfl j (.int .u8 (bs.getD j 0).toNat) (U8_getD (by rw [h.len]; exact hj))
    rw [Addr.add_lit] at this
    exact this

/-- WHAT AN append YIELDS THAT IS FED BY SUCH A SLICE. -/
theorem Rd.src {P : Program} {w : World} {t e : TypeId} (ht : P.underlying t = some (.slice e)) {A : Option Addr} {n c : Nat} {bs : List UInt8} (h : Rd w A n c bs) : Src P 1 t (.slice A n c) n (U8 bs) w := by
  have hl := h.len
  cases A with
  | none =>
    obtain rfl := h.none_ rfl
    obtain rfl : n = 0 := by have := h.le; omega
    obtain rfl : bs = [] := List.eq_nil_of_length_eq_zero hl
    exact Src.ofNil w ht 0
  | some a =>
    refine Src.ofSlice w ht a n c (U8 bs) (by rw [U8_length, hl, Nat.mul_one]) (fun j u hu => ?_) (U8_one bs)
    have hj : j < n := by rw [← hl, ← U8_length]; exact (List.getElem?_eq_some_iff.1 hu).1
    obtain ⟨b, o, hA, _, hc⟩ := h.cells (by omega)
    obtain rfl := Option.some.inj hA
    rw [U8_getD (by rw [hl]; exact hj)] at hu
    obtain rfl := Option.some.inj hu
    rw [Addr.add_lit]
    exact hc j hj

theorem run_append_own_src {P : Program} (w : World) (base : Nat) (t tx ty e : TypeId) (i : TypeInfo) (z : Value) (bytes : Nat) (ht : P.underlying t = some (.slice e)) (hi : P.info? e = some i) (hz : i.zero = some z)
    (hsize : i.size = 1) (hby : i.bytes = bytes) (hzs : z.cells.size = 1) (v : Value) (n : Nat) (xs : List Value) (hown : w.ownsRow base e 1 v n xs)
    (x : Value) (m : Nat) (news : List Value) (hs : Src P 1 tx x m news w) (hbytes : (n + m) * bytes ≤ 140737488355328) (h63 : n + m ≤ 140737488355328) (hbase : base ≤ w.heap.size) :
    ∃ v' w', (Builtin.append_ #[t, tx] ty #[v, x]).run P w = .ok v' w' ∧ w'.ownsRow base e 1 v' (n + m) (xs ++ news) ∧ w.grownBy w' v.ownBlock := by
  have hl : news.length = m := by have := hs.newsLen; omega
  have hxl : xs.length = n := by have := hown.1; omega
  have grown : ∀ (old : Nat), ∀ (row : Option Nat),
      (w.drew.alloc (.cells ((xs ++ news).toArray ++ Builtin.zeroCells z.cells (grownCap w (n + m) old e - (n + m))) e)).ownsRow base e 1
        (.slice (some ⟨w.heap.size, 0, none⟩) (n + m) (grownCap w (n + m) old e)) (n + m) (xs ++ news) ∧
      w.grownBy (w.drew.alloc (.cells ((xs ++ news).toArray ++ Builtin.zeroCells z.cells (grownCap w (n + m) old e - (n + m))) e)) row := by
    intro old row
    have hge := grownCap_ge w (n + m) old e
    have hcm : grownCap w (n + m) old e ≤ maxLen := grownCap_le_maxLen w (n + m) old e (by unfold maxLen; omega)
    refine ⟨⟨by rw [List.length_append]; omega, .inr ⟨w.heap.size, _, _, rfl, hbase, heap_alloc_new w.drew _, hge, hcm, ?_, ?_⟩⟩, ⟨rfl, rfl, rfl, by simp, fun k hk _ => Below.heap_alloc w.drew _ k hk⟩⟩
    · simp only [Array.size_append, List.size_toArray, size_zeroCells, hzs, List.length_append]
      omega
    · simp only [Array.toList_append]
      rw [show (n + m) * 1 = (xs ++ news).length by rw [List.length_append]; omega]
      exact List.take_left
  rcases hown.2 with ⟨rfl, rfl⟩ | ⟨g, cap, cur, rfl, hbg, hg, hnc, hcm, hcs, htake⟩
  · have hx : xs = [] := List.eq_nil_of_length_eq_zero hxl
    subst hx
    by_cases hm : m = 0
    · subst hm
      have hn : news = [] := List.eq_nil_of_length_eq_zero hl
      subst hn
      refine ⟨.slice none 0 0, w, ?_, World.ownsRow_nil w base e 1, World.grownBy.refl _ _⟩
      have hc := hs.cells
      rcases hs.kind with ⟨e', hk⟩ | hk <;>
        simp [Builtin.append_, run_underlying ht, run_underlying hk, sizeOf, typeInfo, hi, hs.len, hsize, hc]
    · have hr := run_append_grow_src (P := P) w t tx ty e i z ht hi hz none 0 0 [] (run_firstCells_none w.drew i.size 0 0 0) x m news (by rw [hsize]; exact hs) (by omega) (by omega) (growslice_fits (by omega) (by rw [hby]; exact hbytes))
      have hgr := grown 0 (Value.ownBlock (.slice none 0 0))
      exact ⟨_, _, hr, hgr.1, hgr.2⟩
  · by_cases hroom : n + m ≤ cap
    · have hcell : ∀ j, j < cap → (w.cell? ⟨g, j, none⟩).isSome = true := fun j hj => by
        rw [cell_of_row w g j cur e (0, 0) hg]
        simp; omega
      have hfr : ∀ j, w.frozen? ⟨g, j, none⟩ = false := fun j => World.ownsRow.frozenAt hown j
      have hr := run_append_room_src (P := P) w t tx ty e i ht hi g 0 n cap x m news (by rw [hsize]; exact hs) hroom
        (fun j hj => hcell _ (by rw [hsize]; omega)) (fun j hj => hfr _)
      have hst := run_storeCells_at P g n e news 0 cur w hg (by omega) hs.one
      have hst2 := run_storeCells_cells (P := P) g n news 0 w (by intro j hj; exact hcell _ (by omega)) (by intro j _; exact hfr _) hs.one
      simp only [Nat.add_zero] at hst hst2
      have heq := hst.symm.trans hst2
      injection heq with _ heq
      rw [hsize, Nat.mul_one, Nat.zero_add, ← heq] at hr
      refine ⟨_, _, hr, ⟨by rw [List.length_append]; omega, .inr ⟨g, cap, _, rfl, hbg, setRow_heap w g cur _ e _ hg, hroom, hcm, ?_, ?_⟩⟩, ⟨rfl, rfl, rfl, by simp, fun k _ hk => setRow_other w g k _ (fun e => hk (by simp [Value.ownBlock, e]))⟩⟩
      · simp only [List.size_toArray, List.length_append, List.length_take, List.length_drop, Array.length_toList]
        omega
      · have h1 : cur.toList.take n = xs := by simpa using htake
        simp only [h1]
        rw [show (n + m) * 1 = (xs ++ news).length by rw [List.length_append]; omega]
        exact List.take_left
    · have holds : ∀ j u, xs[j]? = some u → w.drew.cell? ((⟨g, 0, none⟩ : Addr).add j) = some u := hown.cells (g := g) rfl
      have hr := run_append_grow_src (P := P) w t tx ty e i z ht hi hz (some ⟨g, 0, none⟩) n cap xs
        (run_firstCells_some w.drew i.size n ⟨g, 0, none⟩ n cap xs (by rw [hsize]; omega) holds) x m news (by rw [hsize]; exact hs) (by omega) (by omega) (growslice_fits (by omega) (by rw [hby]; exact hbytes))
      have hgr := grown cap (Value.ownBlock (.slice (some ⟨g, 0, none⟩) n cap))
      exact ⟨_, _, hr, hgr.1, hgr.2⟩

theorem wpList_append_own_src {P : Program} (w : World) {ops : Array Oper} {rest : List Oper} {o : Oper} {a : Act} {Q : Exit → Act → World → Prop} (hgd : o.guard = none) (s x : Operand) (t tx : TypeId)
    (ho : o.op = .call { callee := .builtin .append, args := #[s, x], argTypes := #[t, tx] })
    (base : Nat) (e : TypeId) (i : TypeInfo) (z : Value) (bytes : Nat) (ht : P.underlying t = some (.slice e)) (hi : P.info? e = some i) (hz : i.zero = some z)
    (hsize : i.size = 1) (hby : i.bytes = bytes) (hzs : z.cells.size = 1)
    (v : Value) (n : Nat) (xs : List Value) (hs : a.eval s = v) (hown : w.ownsRow base e 1 v n xs)
    (y : Value) (m : Nat) (news : List Value) (hx : a.eval x = y) (hsrc : Src P 1 tx y m news w)
    (hbytes : (n + m) * bytes ≤ 140737488355328) (h63 : n + m ≤ 140737488355328) (hbase : base ≤ w.heap.size)
    (h : ∀ v' w', w'.ownsRow base e 1 v' (n + m) (xs ++ news) → w.grownBy w' v.ownBlock → wpList P ops Q rest (a.put o.dst v') w') : wpList P ops Q (o :: rest) a w := by
  refine wpList_plain hgd fun K hK => ?_
  obtain ⟨v', w', hr, h2, h3⟩ := run_append_own_src (P := P) w base t tx o.type e i z bytes ht hi hz hsize hby hzs v n xs hown y m news hsrc hbytes h63 hbase
  unfold Oper.wp execOp
  simp only [ho, resolve, invoke, builtin, Sem.run_bind, Sem.run_pure, Result.andThen_ok, List.map_toArray, List.map_cons, List.map_nil, hs, hx, hr]
  exact hK _ _ (h v' w' h2 h3)

/-- make([]T, n, c), both variables: n zero elements are owned. -/
theorem wpList_make_any {P : Program} (w : World) {ops : Array Oper} {rest : List Oper} {o : Oper} {a : Act} {Q : Exit → Act → World → Prop}
    (hg : o.guard = none) (l k : Operand) (t : TypeId) (hop : o.op = Op.makeSlice t l k)
    (base : Nat) (e : TypeId) (i : TypeInfo) (z : Value) (h1 : P.underlying t = some (.slice e)) (h2 : P.info? e = some i) (h3 : i.zero = some z) (h4 : i.size = 1) (hz1 : z.cells = #[z]) (bytes : Nat) (h5 : i.bytes = bytes)
    (kl kc : IntKind) (L C : Int) (n c : Nat) (hl : a.eval l = .int kl L) (hc : a.eval k = .int kc C) (hL : L = (n : Int)) (hC : C = (c : Int)) (hnc : n ≤ c) (b2 : bytes * c ≤ 281474976710656) (b3 : c ≤ 9223372036854775807) (b4 : base ≤ w.heap.size)
    (hK : ∀ w', w'.ownsRow base e 1 (.slice (some ⟨w.heap.size, 0, none⟩) n c) n (List.replicate n z) → w.grownBy w' none → wpList P ops Q rest (a.put o.dst (.slice (some ⟨w.heap.size, 0, none⟩) n c)) w') :
    wpList P ops Q (o :: rest) a w := by
  refine wpList_plain hg fun K hK' => ?_
  have hb' : (i.bytes : Int) * (c : Int) ≤ 281474976710656 := by
    have h : ((bytes * c : Nat) : Int) ≤ 281474976710656 := by omega
    rw [h5]
    rwa [Int.natCast_mul] at h
  have hrun := run_make (P := P) w t e i z h1 h2 h3 kl kc n c (by omega) (by omega) hb' (by omega)
  simp only [Int.toNat_natCast, h4, Nat.mul_one, hz1] at hrun
  subst hL hC
  unfold Oper.wp
  simp [execOp, hop, hl, hc, hrun, Result.andThen]
  refine hK' _ _ (hK _ ⟨by simp, .inr ⟨w.heap.size, c, _, rfl, b4, heap_alloc_new w _, hnc, by unfold maxLen; omega, by simp [size_madeCells], ?_⟩⟩ (World.grownBy_alloc w _ none))
  rw [toList_madeCells_one, Nat.mul_one, List.take_replicate, Nat.min_eq_left hnc]

/-- copy(dst, src): dst a row of the call's own of n elements, src of n elements, too: it then holds src's. -/
theorem wpList_copy_all {P : Program} {w : World} {ops : Array Oper} {rest : List Oper} {o : Oper} {a : Act} {Q : Exit → Act → World → Prop} (hgd : o.guard = none) (d s : Operand) (dT sT : TypeId)
    (ho : o.op = .call { callee := .builtin .copy, args := #[d, s], argTypes := #[dT, sT] }) (elem : TypeId) (hu : P.underlying dT = some (.slice elem)) (hsz : (P.info? elem).map (·.size) = some 1)
    (base : Nat) (g n c : Nat) (hd : a.eval d = .slice (some ⟨g, 0, none⟩) n c) (A : Option Addr) (k : Nat) (hs : a.eval s = .slice A n k) (xs : List Value) (hown : w.ownsRow base elem 1 (.slice (some ⟨g, 0, none⟩) n c) n xs)
    (bs : List UInt8) (hrd : Rd w A n k bs)
    (h : ∀ w', w'.ownsRow base elem 1 (.slice (some ⟨g, 0, none⟩) n c) n (U8 bs) → w.grownBy w' (some g) → wpList P ops Q rest (a.put o.dst (goInt n)) w') : wpList P ops Q (o :: rest) a w := by
  refine wpList_plain hgd fun K hK => ?_
  have hbl := hrd.len
  by_cases hn : n = 0
  · have hrun := run_copy_none (P := P) w dT sT o.type elem (some ⟨g, 0, none⟩) A n c n k hu hsz (by simp [hn])
    unfold Oper.wp
    simp [execOp, ho, resolve, invoke, builtin, hd, hs, hrun, Result.andThen]
    have hx : xs = U8 bs := by
      have h1 := hown.1
      subst hn
      rw [List.eq_nil_of_length_eq_zero h1, List.eq_nil_of_length_eq_zero hbl]
      rfl
    have := hK _ _ (h w (by rw [← hx]; exact hown) (World.grownBy.refl _ _))
    subst hn
    exact this
  · obtain ⟨b, off, rfl, hb, hc⟩ := hrd.cells (by omega)
    rcases hown.2 with ⟨hv, h1⟩ | ⟨g', cap, cur, hv, hbg, hg, h1, h2, h3, h4⟩
    · cases hv
    · injection hv with e1 e2 e3
      injection e1 with e1
      injection e1 with e1
      subst e1 e3
      have hlen : (U8 bs).length = n := by rw [U8_length, hbl]
      have hrun := run_copy_row (P := P) w dT sT o.type elem g 0 n c ⟨b, off, none⟩ n k cur elem (U8 bs) hu hsz hg (by rw [hlen]; simp)
        (fun j u hu => by
          have hj : j < n := by rw [← hlen]; exact (List.getElem?_eq_some_iff.1 hu).1
          rw [U8_getD (by omega)] at hu
          obtain rfl := Option.some.inj hu
          rw [Addr.add_lit]
          exact hc j hj) (by omega) (U8_one bs)
      unfold Oper.wp
      simp [execOp, ho, resolve, invoke, builtin, hd, hs, hrun, Result.andThen, hlen]
      refine hK _ _ (h _ ⟨by rw [hlen]; omega, .inr ⟨g, c, _, rfl, hbg, setRow_heap w g cur _ elem _ hg, h1, h2, ?_, ?_⟩⟩ ⟨rfl, rfl, rfl, by simp, fun j _ hk => setRow_other w g j _ (fun e => hk (by rw [e]))⟩)
      · simp only [List.size_toArray, List.length_append, List.length_drop, Array.length_toList, hlen]
        omega
      · rw [Nat.mul_one]
        simp [hlen]

theorem ownsRow_cap {w : World} {E : TypeId} {B : Nat} {A : Option Addr} {m c n : Nat} {xs : List Value} (h : w.ownsRow B E 1 (.slice A m c) n xs) : m = n ∧ c ≤ 9223372036854775807 := by
  rcases h.2 with ⟨hv, h1⟩ | ⟨g, cap, cur, hv, _, _, _, h2, _⟩
  · injection hv with _ e2 e3
    exact ⟨by omega, by omega⟩
  · injection hv with _ e2 e3
    simp only [maxLen] at h2
    exact ⟨e2, by omega⟩

/-- append(own, b): one byte, that the translation has laid into a block of its own -/
theorem wpList_push {P : Program} {w : World} {ops : Array Oper} {rest : List Oper} {o : Oper} {a : Act} {Q : Exit → Act → World → Prop} (hgd : o.guard = none) (s x : Operand) (t : TypeId)
    (ho : o.op = .call { callee := .builtin .append, args := #[s, x], argTypes := #[t, t] }) (E : TypeId) (ht : P.underlying t = some (.slice E)) (hinfo : (P.info? E).map (fun i => (i.zero, i.size, i.bytes)) = some (some (.int .u8 0), 1, 1))
    (B : Nat) (A : Option Addr) (n c : Nat) (bs : List UInt8) (hs : a.eval s = .slice A n c) (hown : Own w E B A n c bs) (X : Int) (b : UInt8) (hX : X = b.toNat)
    (hx : a.eval x = .slice (some ⟨w.heap.size, 0, none⟩) 1 1) (hn : n < 140737488355328) (hB : B ≤ w.heap.size)
    (h : ∀ A' c' w', Own w' E B A' (n + 1) c' (bs ++ [b]) → Below B w w' → wpList P ops Q rest (a.put o.dst (.slice A' (n + 1) c')) w') : wpList P ops Q (o :: rest) a (w.alloc (.cells #[.int .u8 X] E)) := by
  obtain ⟨i0, hi, hz0, hz1, hz2⟩ := info_parts hinfo
  subst hX
  refine wpList_append_own_src _ hgd s x t t ho B E i0 (.int .u8 0) 1 ht hi hz0 hz1 hz2 rfl _ n (U8 bs) hs (hown.row.alloc _) _ 1 (U8 [b]) hx
    (Src.ofSlice _ ht ⟨w.heap.size, 0, none⟩ 1 1 (U8 [b]) rfl (fun j u hu => ?_) (U8_one _)) (by omega) (by omega) (by simp; omega) ?_
  · have hj : j = 0 := by
      have := (List.getElem?_eq_some_iff.1 hu).1
      simp [U8] at this
      exact this
    subst hj
    rw [Addr.add_lit]
    simp [U8] at hu
    subst hu
    simp
  · intro v' w' ho' hg'
    obtain ⟨A', c', rfl, _, _⟩ := ownsRow_form ho'
    have hc := ownsRow_cap (m := n + 1) (A := A') (c := c') (by simpa using ho')
    refine h A' c' w' ⟨by rw [List.length_append, hown.len]; rfl, hc.2, by rw [U8_append]; exact ho'⟩ ?_
    refine ((Below.refl B w).alloc hB _).grown hg' (by simp; omega) (fun k hk => ?_)
    exact (hown.row.lt k hk).1

/-- append(own, y...): what y yields (a slice, nil let in; a text) -/
theorem wpList_push_all {P : Program} {w : World} {ops : Array Oper} {rest : List Oper} {o : Oper} {a : Act} {Q : Exit → Act → World → Prop} (hgd : o.guard = none) (s x : Operand) (t tx : TypeId)
    (ho : o.op = .call { callee := .builtin .append, args := #[s, x], argTypes := #[t, tx] }) (E : TypeId) (ht : P.underlying t = some (.slice E)) (hinfo : (P.info? E).map (fun i => (i.zero, i.size, i.bytes)) = some (some (.int .u8 0), 1, 1))
    (B : Nat) (A : Option Addr) (n c : Nat) (bs : List UInt8) (hs : a.eval s = .slice A n c) (hown : Own w E B A n c bs) (y : Value) (m : Nat) (cs : List UInt8) (hx : a.eval x = y) (hsrc : Src P 1 tx y m (U8 cs) w)
    (hn : n + m ≤ 140737488355328) (hB : B ≤ w.heap.size)
    (h : ∀ A' c' w', Own w' E B A' (n + m) c' (bs ++ cs) → Below B w w' → wpList P ops Q rest (a.put o.dst (.slice A' (n + m) c')) w') : wpList P ops Q (o :: rest) a w := by
  obtain ⟨i0, hi, hz0, hz1, hz2⟩ := info_parts hinfo
  have hm : cs.length = m := by have := hsrc.newsLen; rw [U8_length] at this; omega
  refine wpList_append_own_src _ hgd s x t tx ho B E i0 (.int .u8 0) 1 ht hi hz0 hz1 hz2 rfl _ n (U8 bs) hs hown.row y m (U8 cs) hx hsrc (by omega) (by omega) hB ?_
  intro v' w' ho' hg'
  obtain ⟨A', c', rfl, _, _⟩ := ownsRow_form ho'
  have hc := ownsRow_cap ho'
  exact h A' c' w' ⟨by rw [List.length_append, hown.len, hm], hc.2, by rw [U8_append]; exact ho'⟩ ((Below.refl B w).grown hg' hB (fun k hk => (hown.row.lt k hk).1))

theorem byteCells_U8 (s : ByteArray) : byteCells s = U8 s.data.toList := rfl

theorem fold_push : ∀ (bs : List UInt8) (s : ByteArray), (bs.map fun b => ((b.toNat : Nat) : Int)).foldl (fun r n => r.push (UInt8.ofNat n.toNat)) s = ⟨s.data ++ bs.toArray⟩
  | [], s => by simp
  | b :: bs, s => by
    rw [List.map_cons, List.foldl_cons, fold_push bs]
    congr 1
    apply Array.ext'
    simp [ByteArray.push]

/-- string(bytes) -/
theorem Rd.text {P : Program} {w : World} {t t' e : TypeId} (ht : P.underlying t = some (.slice e)) (he : P.underlying e = some (.int .u8)) (ht' : P.underlying t' = some .string) {A : Option Addr} {n c : Nat} {bs : List UInt8} (h : Rd w A n c bs) :
    (convert t t' (.slice A n c)).run P w = .ok (.string ⟨bs.toArray⟩) w := by
  rw [run_convert_bytes_string w t t' e A n c ht he ht']
  have hl := h.len
  cases A with
  | none =>
    obtain rfl := h.none_ rfl
    obtain rfl : n = 0 := by have := h.le; omega
    obtain rfl : bs = [] := List.eq_nil_of_length_eq_zero hl
    rfl
  | some a =>
    have hcells : (loadCells a n).run P w = .ok ((bs.map fun b => ((b.toNat : Nat) : Int)).map (Value.int .u8)).toArray w := by
      have h1 := run_loadCells_list (P := P) w a (U8 bs) (fun j u hu => by
        have hj : j < n := by rw [← hl, ← U8_length]; exact (List.getElem?_eq_some_iff.1 hu).1
        obtain ⟨b, o, hA, _, hc⟩ := h.cells (by omega)
        obtain rfl := Option.some.inj hA
        rw [U8_getD (by rw [hl]; exact hj)] at hu
        obtain rfl := Option.some.inj hu
        rw [Addr.add_lit]
        exact hc j hj)
      rw [U8_length, hl] at h1
      rw [h1, List.map_map]
      rfl
    rw [run_bytesToString w a n c _ hcells, fold_push]
    congr 1
    simp

/-- k's lowest seven bits, with the highest bit set -/
theorem or_high : ∀ x : Fin 256, bits BinOp.or IntKind.u8 ((x.val : Nat) : Int) 128 = ((128 + x.val % 128 : Nat) : Int) := by decide +kernel
theorem or_more (k : Nat) : bits BinOp.or IntKind.u8 ((k : Int) % 256) 128 = ((UInt8.ofNat (128 + k % 128)).toNat : Int) := by
  have h := or_high ⟨k % 256, by omega⟩
  simp only at h
  rw [show ((k : Int) % 256) = ((k % 256 : Nat) : Int) by omega, h]
  have : (UInt8.ofNat (128 + k % 128)).toNat = 128 + k % 128 := by simp [UInt8.toNat_ofNat']; omega
  rw [this]
  omega
theorem low_byte (k : Nat) : ((k : Int) % 256) = ((UInt8.ofNat k).toNat : Int) := by
  have : (UInt8.ofNat k).toNat = k % 256 := by simp [UInt8.toNat_ofNat']
  rw [this]
  omega
theorem mod_more (k : Nat) : ((128 + (k : Int) % 128) % 256) = ((UInt8.ofNat (128 + k % 128)).toNat : Int) := by
  have : (UInt8.ofNat (128 + k % 128)).toNat = 128 + k % 128 := by simp [UInt8.toNat_ofNat']; omega
  rw [this]
  omega
theorem mod_more' (k : Nat) : (128 + (k : Int) % 128) = ((UInt8.ofNat (128 + k % 128)).toNat : Int) := by
  have : (UInt8.ofNat (128 + k % 128)).toNat = 128 + k % 128 := by simp [UInt8.toNat_ofNat']; omega
  rw [this]
  omega
theorem small_byte (k : Nat) (h : k < 128) : (k : Int) = ((UInt8.ofNat k).toNat : Int) := by
  have : (UInt8.ofNat k).toNat = k % 256 := by simp [UInt8.toNat_ofNat']
  rw [this]
  omega

#print axioms wpList_append_own_src
#print axioms wpList_copy_all
end Go.Proofs.YtbeileihbhooaaaDoor
