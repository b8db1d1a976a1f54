/-
  coin: slices.Clone of numbers, Pays, Rest of a pot: contracts.
-/
import Derived.Test.YthdnfnilckjldaaCRSplit
import Derived.Test.YthdnfnilckjldaaCNil
import Derived.Test.YthdnfnilckjldaaSched
namespace Go.Proofs.Ythdnfnilckjldaa
open Go.RowKit

theorem eql_slice_nil {P : Program} (w : World) {t e : TypeId} (a : Addr) (n c : Nat) (ht : P.underlying t = some (.slice e)) :
    (binOp .eql t (.slice (some a) n c) (.slice none 0 0)).run P w = .ok (.bool false) w := by
  have h : ∀ d : Nat, (Op.equalIn (d + 1) t (.slice (some a) n c) (.slice none 0 0)).run P w = .ok false w := fun d => by
    simp [Op.equalIn, run_underlying ht]
  simp only [binOp]
  simp [Op.equal, Op.maxDepth, h 9999]

/-- the call hands back a row of its own of these numbers -/
def Lists (E : TypeId) (w : World) (n : Nat) (xs : List Int) (e : Ending) (w' : World) : Prop :=
  ∃ A c, e = .returned (.slice A n c) ∧ OwnI w' E w.heap.size A n c xs ∧ Below w.heap.size w w'

set_option maxRecDepth 100000 in
theorem cloneI (w : World) (a : Addr) (n c : Nat) (xs : List Int) (h : Hid (RdI w (some a) n c xs)) (hn : n ≤ 1000) : Calls Try.prog 33 #[.slice (some a) n c] w (Lists 3 w n xs) := by
  have E0 := eql_slice_nil (P := Try.prog) w a n c Try.underlying22
  go_enter Try.func33, Try.ntmps33
  go_wp2_with (refine wpList_pushI_all (o := ⟨some 7, _, _, _, _, _⟩) rfl (.tmp 5) (.tmp 6) 22 22 rfl 3 Try.underlying22 infoI w.heap.size _ _ _ [] (by rfl) (OwnI.empty w _) _ n xs (by rfl) ((h.out.ext (ext_alloc _ _)).src Try.underlying22) (by omega) (ext_alloc _ _).size ?_; intro Aa ca u1 hoa hba; go_simp)
  go_ret
  have := hoa
  rw [Nat.zero_add] at this
  exact ⟨_, _, rfl, this, (ext_alloc w _).trans hba⟩

theorem Pot.read {w : World} {b : Nat} {left seats : Int} {hs : List Int} (h : Pot w b left seats hs) : RdI w (some ⟨b, 2, none⟩) seats.toNat 8 (hs.take seats.toNat) := by
  have hl := h.len
  obtain ⟨_, f2, f3, _⟩ := h.fits
  refine ⟨by rw [List.length_take]; omega, by omega, by omega, fun _ => ⟨b, 2, rfl, h.lt, fun j hj => ?_⟩, fun e => by cases e⟩
  rw [h.at (by omega)]
  have e : (hs.take seats.toNat).getD j 0 = hs.getD j 0 := by simp [List.getD, hj]
  rw [e]

set_option maxRecDepth 100000 in
set_option maxHeartbeats 1000000 in
theorem pays_c (w : World) (b : Nat) (left seats : Int) (hs : List Int) (h : Hid (Pot w b left seats hs)) : Calls Try.prog 28 #[.pointer (some ⟨b, 0, none⟩)] w (Lists 3 w seats.toNat (hs.take seats.toNat)) := by
  have HR := Lib.hid h.out.read
  have c1 := h.out.c1
  have f2 := h.out.fits.2.1
  have f3 := h.out.fits.2.2.1
  obtain ⟨n, rfl⟩ : ∃ n : Nat, seats = n := ⟨seats.toNat, by omega⟩
  have HR2 : Hid (RdI w (some ⟨b, 2, none⟩) n 8 (hs.take n)) := by have := HR.out; rw [Int.toNat_natCast] at this; exact this
  have hg : Hid ((n : Int).toNat = n) := by show (n : Int).toNat = n; simp
  go_enter Try.func28, Try.ntmps28
  go_wp2_with fail
  refine wp_region_sched [(true, 0), (true, 1), (true, 2), (true, 3), (true, 4), (true, 5), (false, 6), (true, 7), (false, 8), (true, 9)] (by kernel_rfl) rfl (by kernel_rfl) (by kernel_rfl) (fun _ _ d _ _ h => by cases d <;> exact h) ?_
  intro J0 hJ0
  iterate 6 (refine sched_pure (v := ?_) rfl (by rfl) ?_ ?_; rotate_left; (focus (intro w; go_simp; try with_reducible rfl)); try go_simp)
  refine sched_eff rfl ?_
  intro J hJ
  go_wp2_with fail
  refine sched_pure (v := .slice (some ⟨b, 2, none⟩) n 8) rfl (by rfl) ?_ ?_
  · intro w; go_simp
  go_simp
  refine sched_eff rfl ?_
  intro J hJ
  go_wp2_with fail
  refine (cloneI _ _ _ _ _ (HR2.out.ext (ext_drew _)) (by omega)).mono ?_
  rintro e w2 ⟨A, c, rfl, ho, hb⟩
  have HO := Lib.hid ho
  have HB := Lib.hid hb
  clear ho hb
  go_wp2_with fail
  refine sched_pure (v := ?_) rfl (by rfl) ?_ ?_; rotate_left; (focus (intro w; go_simp; try with_reducible rfl)); try go_simp
  refine sched_nil (hJ0 _ _ ?_)
  go_wp2_with fail
  go_ret
  exact ⟨A, c, by rw [hg.out]; rfl, by rw [hg.out]; exact HO.out, (ext_drew w).trans HB.out⟩

theorem OwnI.base {w : World} {E : TypeId} {B B' : Nat} {A : Option Addr} {n c : Nat} {bs : List Int} (h : OwnI w E B A n c bs) (hB : B' ≤ B) : OwnI w E B' A n c bs := by
  refine ⟨h.len, h.max, h.row.1, ?_⟩
  rcases h.row.2 with h1 | ⟨g, cap, cur, h1, h2, h3⟩
  · exact .inl h1
  · exact .inr ⟨g, cap, cur, h1, Nat.le_trans hB h2, h3⟩

/-- which seat is paid -/
def seatAt (S seats : Int) : Nat := if 0 ≤ S ∧ S < seats then S.toNat else 0
theorem pay_c (w : World) (b : Nat) (left seats : Int) (hs : List Int) (h : Pot w b left seats hs) (S ask : Int) :
    Calls Try.prog 26 #[.pointer (some ⟨b, 0, none⟩), .int .i64 S, .int .i64 ask] w (Paid w b left seats hs (seatAt S seats) (min (max ask 0) left)) := by
  unfold seatAt
  by_cases hS : 0 ≤ S ∧ S < seats
  · rw [if_pos hS]
    obtain ⟨j, rfl⟩ : ∃ j : Nat, S = j := ⟨S.toNat, by omega⟩
    rw [Int.toNat_natCast]
    exact pay_in w b left seats hs h j hS.2 ask _ rfl
  · rw [if_neg hS]
    exact pay_out w b left seats hs h S (by omega) ask _ rfl

/-- the call pays all that is left, and hands back what each has -/
def Rests (E : TypeId) (w : World) (b : Nat) (left seats : Int) (hs : List Int) (j : Nat) (e : Ending) (w' : World) : Prop :=
  ∃ A c, e = .returned (.slice A seats.toNat c) ∧ Pot w' b 0 seats (hs.set j (hs.getD j 0 + left)) ∧ OwnI w' E w.heap.size A seats.toNat c ((hs.set j (hs.getD j 0 + left)).take seats.toNat) ∧ w.grownBy w' (some b)

set_option maxRecDepth 100000 in
theorem rest_c (w : World) (b : Nat) (left seats : Int) (hs : List Int) (h : Hid (Pot w b left seats hs)) (S : Int) : Calls Try.prog 29 #[.pointer (some ⟨b, 0, none⟩), .int .i64 S] w (Rests 3 w b left seats hs (seatAt S seats)) := by
  have f1 := h.out.fits.1
  have hm : Hid (min (max left 0) left = left) := by show min (max left 0) left = left; omega
  go_enter Try.func29, Try.ntmps29
  go_wp2_with fail
  refine (left_c _ _ _ _ _ h.out).mono ?_
  rintro e v ⟨rfl, rfl⟩
  go_wp2_with fail
  refine (pay_c _ _ _ _ _ h.out _ _).mono ?_
  rw [hm.out]
  rintro e w1 ⟨rfl, hp, hg⟩
  rw [Int.sub_self] at hp
  have HP := Lib.hid hp
  have HG := Lib.hid hg
  clear hp hg
  go_wp2_with fail
  refine (pays_c _ _ _ _ _ HP).mono ?_
  rintro e w2 ⟨A, c, rfl, ho, hb⟩
  have HO := Lib.hid ho
  have HB := Lib.hid hb
  clear ho hb
  go_wp2_with fail
  go_ret
  exact ⟨A, c, rfl, HP.out.ext HB.out, HO.out.base HG.out.size, grownBy_more HG.out HB.out⟩
#print axioms rest_c
end Go.Proofs.Ythdnfnilckjldaa
