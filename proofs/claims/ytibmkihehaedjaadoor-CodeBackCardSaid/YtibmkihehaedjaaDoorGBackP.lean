/-
  code: what is encoded is decoded, what is decoded is encoded; what is cut is short: plain facts.
-/
import Derived.Test.YtibmkihehaedjaaDoorGDecP
import Derived.Test.YtibmkihehaedjaaDoorGPure2
namespace Go.Proofs.YtibmkihehaedjaaDoor
open Go.RowKit

theorem decF_inv : ∀ (bs : List UInt8) (i acc : Nat), i ≤ 9 → (decF i acc bs).2.2 = 0 →
    ∃ m, (decF i acc bs).1 = acc + m * 128 ^ i ∧ i < (decF i acc bs).2.1 ∧ (decF i acc bs).2.1 ≤ 10 ∧ bs.take ((decF i acc bs).2.1 - i) = num m ∧ (0 < i → 0 < m)
  | [], i, acc, _, h => by simp [decF] at h
  | x :: r, i, acc, hi, h => by
    have hx := x.toNat_lt
    rw [decF] at h ⊢
    split at h
    · simp at h
    · rename_i hc
      rw [if_neg hc]
      split at h
      · rename_i h1
        rw [if_pos h1]
        refine ⟨x.toNat, rfl, by simp, by simp; omega, ?_, by omega⟩
        rw [num_small h1]
        simp
      · rename_i h1
        rw [if_neg h1]
        obtain ⟨m, e1, e2, e3, e4, e5⟩ := decF_inv r (i + 1) _ (by omega) h
        have hm := e5 (by omega)
        refine ⟨x.toNat % 128 + 128 * m, ?_, by omega, e3, ?_, by omega⟩
        · rw [e1, Nat.pow_succ, Nat.add_mul, Nat.add_assoc]
          congr 2
          rw [Nat.mul_comm (128 ^ i) 128, ← Nat.mul_assoc, Nat.mul_comm m 128]
        · rw [num_big (by omega)]
          have e6 : (x.toNat % 128 + 128 * m) / 128 = m := by omega
          have e7 : UInt8.ofNat (128 + (x.toNat % 128 + 128 * m) % 128) = x := by
            apply UInt8.toNat_inj.1
            simp [UInt8.toNat_ofNat']
            omega
          rw [e6, e7, ← e4]
          rw [show (decF (i + 1) (acc + x.toNat % 128 * 128 ^ i) r).2.1 - i = ((decF (i + 1) (acc + x.toNat % 128 * 128 ^ i) r).2.1 - (i + 1)) + 1 by omega, List.take_succ_cons]
theorem decF_bad : ∀ (bs : List UInt8) (i acc : Nat), (decF i acc bs).2.2 ≠ 0 → (decF i acc bs).1 = 0
  | [], _, _, _ => rfl
  | x :: r, i, acc, h => by
    rw [decF] at h ⊢
    split
    · rfl
    · rename_i hc
      rw [if_neg hc] at h
      split
      · rename_i h1
        rw [if_pos h1] at h
        simp at h
      · rename_i h1
        rw [if_neg h1] at h
        exact decF_bad r (i + 1) _ h
/-- what is read as a number, put again, is what was read -/
theorem dec_inv {bs : List UInt8} (h : (dec bs).2.2 = 0) : 0 < (dec bs).2.1 ∧ (dec bs).2.1 ≤ 10 ∧ num (dec bs).1 = bs.take (dec bs).2.1 := by
  obtain ⟨m, e1, e2, e3, e4, _⟩ := decF_inv bs 0 0 (by omega) h
  refine ⟨e2, e3, ?_⟩
  unfold dec
  rw [Nat.sub_zero] at e4
  rw [e4, e1]
  simp

theorem decF_cut : ∀ (k m i acc j : Nat), m < 128 ^ k → 0 < k → i + k ≤ 10 → (i + k = 10 → m < 2 * 128 ^ (k - 1)) → (0 < i → 0 < m) → j < (num m).length → decF i acc ((num m).take j) = (0, 0, 4)
  | 0, _, _, _, _, _, h, _, _, _, _ => absurd h (by omega)
  | k + 1, m, i, acc, j, hm, _, hi, ht, hp, hj => by
    cases j with
    | zero => rw [List.take_zero, decF]
    | succ j =>
      by_cases h : m < 128
      · rw [num_small h] at hj; simp at hj
      · have hk : 0 < k := by
          rcases Nat.eq_zero_or_pos k with h0 | h0
          · subst h0; omega
          · exact h0
        have e : (UInt8.ofNat (128 + m % 128)).toNat = 128 + m % 128 := by simp [UInt8.toNat_ofNat']; omega
        rw [num_big h, List.length_cons] at hj
        rw [num_big h, List.take_succ_cons, decF, e, if_neg (by omega), if_neg (by omega)]
        have hk1 : 128 ^ k = 128 ^ (k - 1) * 128 := by rw [← Nat.pow_succ]; congr 1; omega
        exact decF_cut k (m / 128) (i + 1) _ j (by rw [Nat.pow_succ] at hm; omega) hk (by omega) (fun h10 => by
          have := ht (by omega)
          rw [Nat.add_sub_cancel] at this
          omega) (fun _ => by omega) (by omega)
theorem dec_cut {m j : Nat} (hm : m < 18446744073709551616) (hj : j < (num m).length) : dec ((num m).take j) = (0, 0, 4) :=
  decF_cut 10 m 0 0 j (by omega) (by omega) (by omega) (fun _ => by omega) (fun h => absurd h (by omega)) hj
theorem rnum_short {m j most : Nat} (hm : m < 18446744073709551616) (hj : j < (num m).length) : rnum ((num m).take j) 0 most = (0, (num m).take j, 4) := by
  unfold rnum
  rw [dec_cut hm hj, if_neg (by simp), if_pos (by simp)]


theorem rnum_inv {bs : List UInt8} {most : Nat} (h : (rnum bs 0 most).2.2 = 0) : bs = num (rnum bs 0 most).1 ++ (rnum bs 0 most).2.1 := by
  unfold rnum at h ⊢
  split
  · rename_i h1; exact absurd rfl h1
  · rename_i h1
    rw [if_neg h1] at h
    split
    · rename_i h2
      rw [if_pos h2] at h
      exact absurd h h2
    · rename_i h2
      rw [if_neg h2] at h
      split
      · rename_i h3
        rw [if_pos h3] at h
        exact absurd h (show ¬ (2 : Int) = 0 by decide)
      · have hd : (dec bs).2.2 = 0 := by
          by_cases e : (dec bs).2.2 = 0
          · exact e
          · exact absurd e h2
        have h4 := (dec_inv hd).2.2
        show bs = num (dec bs).1 ++ bs.drop (dec bs).2.1
        rw [h4, List.take_append_drop]
theorem fold_unfold {m : Nat} : fold (unfold_ m) = m := by
  unfold fold unfold_
  split <;> split <;> omega
def in32 (x : Int) : Prop := -2147483648 ≤ x ∧ x ≤ 2147483647
def flatN (l : List Int) : List UInt8 := l.flatMap fun x => num (fold x)
theorem numR_inv : ∀ (q : Nat) (bs : List UInt8), (numR q bs).2.2 = 0 → bs = flatN (numR q bs).1 ++ (numR q bs).2.1 ∧ (numR q bs).1.length = q
  | 0, bs, _ => ⟨rfl, rfl⟩
  | q + 1, bs, h => by
    rw [numR] at h ⊢
    by_cases h1 : (rnum bs 0 18446744073709551615).2.2 = 0
    · rw [if_neg (fun h => h h1)] at h ⊢
      by_cases h2 : -2147483648 ≤ unfold_ (rnum bs 0 18446744073709551615).1 ∧ unfold_ (rnum bs 0 18446744073709551615).1 ≤ 2147483647
      · rw [if_neg (fun h => h h2)] at h ⊢
        obtain ⟨h3, h4⟩ := numR_inv q _ h
        have h5 := rnum_inv h1
        refine ⟨?_, by simp only [List.length_cons]; rw [h4]⟩
        show bs = flatN (unfold_ (rnum bs 0 18446744073709551615).1 :: (numR q (rnum bs 0 18446744073709551615).2.1).1) ++ (numR q (rnum bs 0 18446744073709551615).2.1).2.1
        unfold flatN at h3 ⊢
        rw [List.flatMap_cons, fold_unfold, List.append_assoc, ← h3]
        exact h5
      · rw [if_pos h2] at h
        exact absurd h (show ¬ (2 : Int) = 0 by decide)
    · rw [if_pos h1] at h
      exact absurd h h1
theorem puts_flat (t : Nat → Int) : ∀ q, putsF t q = flatN ((List.range q).map t)
  | 0 => rfl
  | q + 1 => by
    rw [putsF, puts_flat t q, List.range_succ]
    unfold flatN
    simp
theorem three_list {xs : List Int} (h : xs.length ≤ 3) : (List.range xs.length).map (three (xs.getD 0 0) (xs.getD 1 0) (xs.getD 2 0)) = xs := by
  match xs, h with
  | [], _ => rfl
  | [x], _ => rfl
  | [x, y], _ => rfl
  | [x, y, z], _ => rfl
  | x :: y :: z :: v :: l, h => simp at h
theorem insR_inv {bs : List UInt8} (h : (insR bs).2.2 = 0) : bs = insB (insR bs).1 ++ (insR bs).2.1 := by
  unfold insR at h ⊢
  by_cases h1 : (rnum bs 0 21).2.2 = 0
  · rw [if_neg (fun h => h h1)] at h ⊢
    obtain ⟨h3, h4⟩ := numR_inv _ _ h
    have h5 := rnum_inv h1
    have ho := rnum_most bs 0 21
    have h6 := hasB_len (rnum bs 0 21).1 (by omega)
    show bs = insB (insOf (rnum bs 0 21).1 (numR (hasB (rnum bs 0 21).1).length (rnum bs 0 21).2.1).1) ++ (numR (hasB (rnum bs 0 21).1).length (rnum bs 0 21).2.1).2.1
    have e : insB (insOf (rnum bs 0 21).1 (numR (hasB (rnum bs 0 21).1).length (rnum bs 0 21).2.1).1) = num (rnum bs 0 21).1 ++ flatN (numR (hasB (rnum bs 0 21).1).length (rnum bs 0 21).2.1).1 := by
      unfold insB insOf
      dsimp only
      rw [Int.toNat_natCast, puts_flat]
      congr 2
      have h7 := three_list (xs := (numR (hasB (rnum bs 0 21).1).length (rnum bs 0 21).2.1).1) (by omega)
      rw [h4] at h7
      exact h7
    rw [e, List.append_assoc, ← h3]
    exact h5
  · rw [if_pos h1] at h
    exact absurd h h1
theorem manyR_inv : ∀ (n : Nat) (bs : List UInt8), (manyR n bs).2.2 = 0 → bs = (manyR n bs).1.flatMap insB ++ (manyR n bs).2.1 ∧ (manyR n bs).1.length = n
  | 0, bs, _ => ⟨rfl, rfl⟩
  | n + 1, bs, h => by
    rw [manyR] at h ⊢
    by_cases h1 : (insR bs).2.2 = 0
    · rw [if_neg (fun h => h h1)] at h ⊢
      obtain ⟨h3, h4⟩ := manyR_inv n _ h
      have h5 := insR_inv h1
      refine ⟨?_, by simp only [List.length_cons]; rw [h4]⟩
      show bs = ((insR bs).1 :: (manyR n (insR bs).2.1).1).flatMap insB ++ (manyR n (insR bs).2.1).2.1
      rw [List.flatMap_cons, List.append_assoc, ← h3]
      exact h5
    · rw [if_pos h1] at h
      exact absurd h h1
/-- what is decoded well -/
theorem decV_good {bs : List UInt8} (h : (decV bs).2 = 0) : (rnum bs 0 2048).2.2 = 0 ∧ (manyR (rnum bs 0 2048).1 (rnum bs 0 2048).2.1).2.2 = 0 ∧ (manyR (rnum bs 0 2048).1 (rnum bs 0 2048).2.1).2.1 = [] ∧ (checkV (decV bs).1 256).2 = 0 ∧ (decV bs).1 = (manyR (rnum bs 0 2048).1 (rnum bs 0 2048).2.1).1 := by
  unfold decV at h ⊢
  by_cases h1 : (rnum bs 0 2048).2.2 = 0
  · rw [if_neg (fun h => h h1)] at h ⊢
    by_cases h2 : (manyR (rnum bs 0 2048).1 (rnum bs 0 2048).2.1).2.2 = 0
    · rw [if_neg (fun h => h h2)] at h ⊢
      by_cases h3 : (manyR (rnum bs 0 2048).1 (rnum bs 0 2048).2.1).2.1 = []
      · rw [if_neg (fun h => h h3)] at h ⊢
        by_cases h4 : (checkV (manyR (rnum bs 0 2048).1 (rnum bs 0 2048).2.1).1 256).2 = 0
        · rw [if_neg (fun h => h h4)]
          exact ⟨h1, h2, h3, h4, rfl⟩
        · rw [if_pos h4] at h
          exact absurd h h4
      · rw [if_pos h3] at h
        exact absurd h (show ¬ (5 : Int) = 0 by decide)
    · rw [if_pos h2] at h
      exact absurd h h2
  · rw [if_pos h1] at h
    exact absurd h h1
/-- WHAT IS DECODED IS ENCODED AS JUST THESE BYTES -/
theorem dec_enc {bs : List UInt8} (h : (decV bs).2 = 0) : encV (decV bs).1 = (bs, 0) := by
  obtain ⟨h1, h2, h3, h4, h5⟩ := decV_good h
  obtain ⟨h6, h7⟩ := manyR_inv _ _ h2
  have h8 := rnum_inv h1
  unfold encV
  rw [if_pos h4]
  congr 1
  unfold encF
  rw [List.take_length, h5, h7]
  rw [h3, List.append_nil] at h6
  rw [← h6]
  exact h8.symm
theorem right_in32 {o a b c size words : Int} (h : rightV o a b c size words = true) (hs : size ≤ 2048) (hw : words ≤ 256) : ∀ k, k < 3 → in32 (three a b c k) ∧ ((hasB o.toNat).length ≤ k → three a b c k = 0) := by
  intro k hk
  have hp := (right_parts h).2 k hk
  unfold partOk at hp
  unfold in32
  split at hp
  · have := of_decide_eq_true hp
    exact ⟨by omega, fun _ => this⟩
  · rename_i h1
    split at hp
    · have := of_decide_eq_true hp
      exact ⟨this, fun h2 => absurd h2 h1⟩
    · split at hp
      · have := of_decide_eq_true hp
        exact ⟨by omega, fun h2 => absurd h2 h1⟩
      · have := of_decide_eq_true hp
        exact ⟨by omega, fun h2 => absurd h2 h1⟩
theorem right_ok {i : Ins} {size : Int} (h : rightI size 256 i = true) (hs : size ≤ 2048) : i.ok := by
  have h1 := (right_parts h).1
  have h2 := right_in32 h hs (Int.le_refl _)
  have k0 := (h2 0 (by omega)).1
  have k1 := (h2 1 (by omega)).1
  have k2 := (h2 2 (by omega)).1
  have e0 : three i.a i.b i.c 0 = i.a := rfl
  have e1 : three i.a i.b i.c 1 = i.b := rfl
  have e2 : three i.a i.b i.c 2 = i.c := rfl
  unfold in32 at k0 k1 k2
  unfold Ins.ok In64
  omega
theorem dec_ok {bs : List UInt8} (h : (decV bs).2 = 0) : ∀ x ∈ (decV bs).1, x.ok := by
  obtain ⟨_, _, _, h4, _⟩ := decV_good h
  have hck := check_ok h4
  intro x hx
  exact right_ok (hck.2 x hx) (by omega)
theorem fold_32 {x : Int} (h : in32 x) : fold x < 18446744073709551616 := fold_lt (by unfold in32 at h; omega) (by unfold in32 at h; omega)
theorem numR_flat : ∀ (l : List Int) (r : List UInt8), (∀ x ∈ l, in32 x) → numR l.length (flatN l ++ r) = (l, r, 0)
  | [], r, _ => rfl
  | x :: l, r, h => by
    have hx := h x (List.mem_cons_self ..)
    have hl := numR_flat l r (fun y hy => h y (List.mem_cons_of_mem _ hy))
    have e : flatN (x :: l) ++ r = num (fold x) ++ (flatN l ++ r) := by unfold flatN; rw [List.flatMap_cons, List.append_assoc]
    have hf := fold_32 hx
    have h1 := rnum_num hf (flatN l ++ r) (most := 18446744073709551615) (by omega)
    show numR (l.length + 1) (flatN (x :: l) ++ r) = _
    rw [e, numR, h1]
    dsimp only
    rw [if_neg (fun h => h rfl), unfold_fold, if_neg (fun h => h hx), hl]
theorem insB_flat (i : Ins) : insB i = num i.o.toNat ++ flatN ((List.range (hasB i.o.toNat).length).map (three i.a i.b i.c)) := by unfold insB; rw [puts_flat]
def insGood (i : Ins) : Prop := (0 ≤ i.o ∧ i.o < 22) ∧ ∀ k, k < 3 → in32 (three i.a i.b i.c k) ∧ ((hasB i.o.toNat).length ≤ k → three i.a i.b i.c k = 0)
theorem good_nums {i : Ins} (h : insGood i) : ∀ x ∈ (List.range (hasB i.o.toNat).length).map (three i.a i.b i.c), in32 x := by
  intro x hx
  obtain ⟨k, hk, rfl⟩ := List.mem_map.1 hx
  have h3 := hasB_len i.o.toNat (by have := h.1; omega)
  exact (h.2 k (by have := List.mem_range.1 hk; omega)).1
theorem insOf_back {i : Ins} (h : insGood i) : insOf i.o.toNat ((List.range (hasB i.o.toNat).length).map (three i.a i.b i.c)) = i := by
  have g : ∀ k, k < 3 → ((List.range (hasB i.o.toNat).length).map (three i.a i.b i.c)).getD k 0 = three i.a i.b i.c k := by
    intro k hk
    by_cases hq : k < (hasB i.o.toNat).length
    · simp [List.getD, hq]
    · rw [(h.2 k hk).2 (by omega)]
      simp [List.getD, List.getElem?_eq_none (by simp; omega : ((List.range (hasB i.o.toNat).length).map (three i.a i.b i.c)).length ≤ k)]
  unfold insOf
  rw [g 0 (by omega), g 1 (by omega), g 2 (by omega)]
  have ho := h.1
  obtain ⟨o, a, b, c⟩ := i
  dsimp only at ho ⊢
  rw [Int.toNat_of_nonneg ho.1]
  rfl
theorem insR_ins {i : Ins} (h : insGood i) (r : List UInt8) : insR (insB i ++ r) = (i, r, 0) := by
  have ho := h.1
  have h1 := rnum_num (m := i.o.toNat) (by omega) (flatN ((List.range (hasB i.o.toNat).length).map (three i.a i.b i.c)) ++ r) (most := 21) (by omega)
  have h2 := numR_flat _ r (good_nums h)
  rw [List.length_map, List.length_range] at h2
  rw [insB_flat, List.append_assoc]
  unfold insR
  rw [h1]
  dsimp only
  rw [if_neg (fun h => h rfl), h2, insOf_back h]
theorem manyR_all : ∀ (l : List Ins) (r : List UInt8), (∀ x ∈ l, insGood x) → manyR l.length (l.flatMap insB ++ r) = (l, r, 0)
  | [], r, _ => rfl
  | x :: l, r, h => by
    have hx := insR_ins (h x (List.mem_cons_self ..)) (l.flatMap insB ++ r)
    have hl := manyR_all l r (fun y hy => h y (List.mem_cons_of_mem _ hy))
    show manyR (l.length + 1) ((x :: l).flatMap insB ++ r) = _
    rw [List.flatMap_cons, List.append_assoc, manyR, hx]
    dsimp only
    rw [if_neg (fun h => h rfl), hl]
theorem check_good {l : List Ins} (h : (checkV l 256).2 = 0) : (1 ≤ l.length ∧ l.length ≤ 2048) ∧ ∀ x ∈ l, insGood x := by
  have hck := check_ok h
  refine ⟨hck.1, fun x hx => ⟨(right_parts (hck.2 x hx)).1, right_in32 (hck.2 x hx) (by omega) (Int.le_refl _)⟩⟩
/-- WHAT IS ENCODED IS DECODED AS IT WAS; with more behind it it is too long -/
theorem dec_encF {l : List Ins} (h : (checkV l 256).2 = 0) (r : List UInt8) : decV (encF l l.length ++ r) = if r ≠ [] then ([], 5) else (l, 0) := by
  obtain ⟨hn, hg⟩ := check_good h
  have h1 := rnum_num (m := l.length) (by omega) (l.flatMap insB ++ r) (most := 2048) hn.2
  have h2 := manyR_all l r hg
  unfold encF
  rw [List.take_length, List.append_assoc]
  unfold decV
  rw [h1]
  dsimp only
  rw [if_neg (fun h => h rfl), h2]
  dsimp only
  by_cases hr : r = []
  · subst hr
    simp [h]
  · simp [hr]
theorem decV_err {bs : List UInt8} (h : (decV bs).2 ≠ 0) : (decV bs).1 = [] := by
  unfold decV at h ⊢
  split
  · rfl
  · rename_i h1
    rw [if_neg h1] at h
    split
    · rfl
    · rename_i h2
      rw [if_neg h2] at h
      split
      · rfl
      · rename_i h3
        rw [if_neg h3] at h
        split
        · rfl
        · rename_i h4
          rw [if_neg h4] at h
          exact absurd rfl h
theorem encF_pos (l : List Ins) (k : Nat) : 0 < (encF l k).length := by
  unfold encF
  have := num_pos l.length
  rw [List.length_append]
  omega
theorem take_mid {a b : List UInt8} {j : Nat} (h : ¬ j < a.length) : (a ++ b).take j = a ++ b.take (j - a.length) := by
  rw [List.take_append, List.take_of_length_le (by omega)]
theorem take_low {a b : List UInt8} {j : Nat} (h : j < a.length) : (a ++ b).take j = a.take j := by
  rw [List.take_append, show j - a.length = 0 by omega, List.take_zero, List.append_nil]
theorem numR_cut : ∀ (l : List Int) (r : List UInt8) (j : Nat), (∀ x ∈ l, in32 x) → j < (flatN l).length → (numR l.length ((flatN l ++ r).take j)).2.2 = 4
  | [], r, j, _, hj => by simp [flatN] at hj
  | x :: l, r, j, h, hj => by
    have hf := fold_32 (h x (List.mem_cons_self ..))
    have e : flatN (x :: l) ++ r = num (fold x) ++ (flatN l ++ r) := by unfold flatN; rw [List.flatMap_cons, List.append_assoc]
    have e2 : (flatN (x :: l)).length = (num (fold x)).length + (flatN l).length := by unfold flatN; rw [List.flatMap_cons, List.length_append]
    show (numR (l.length + 1) ((flatN (x :: l) ++ r).take j)).2.2 = 4
    rw [e, numR]
    by_cases hs : j < (num (fold x)).length
    · rw [take_low hs, rnum_short hf hs]
      dsimp only
      rw [if_pos (by decide)]
    · rw [take_mid hs]
      have h1 := rnum_num hf ((flatN l ++ r).take (j - (num (fold x)).length)) (most := 18446744073709551615) (by omega)
      rw [h1]
      dsimp only
      rw [if_neg (fun h => h rfl), unfold_fold, if_neg (fun h2 => h2 (h x (List.mem_cons_self ..)))]
      exact numR_cut l r _ (fun y hy => h y (List.mem_cons_of_mem _ hy)) (by omega)
theorem insR_cut {i : Ins} (h : insGood i) (r : List UInt8) {j : Nat} (hj : j < (insB i).length) : (insR ((insB i ++ r).take j)).2.2 = 4 := by
  have ho := h.1
  rw [insB_flat] at hj ⊢
  rw [List.length_append] at hj
  rw [List.append_assoc]
  unfold insR
  by_cases hs : j < (num i.o.toNat).length
  · rw [take_low hs, rnum_short (by omega) hs]
    dsimp only
    rw [if_pos (by decide)]
  · rw [take_mid hs]
    have h1 := rnum_num (m := i.o.toNat) (by omega) ((flatN ((List.range (hasB i.o.toNat).length).map (three i.a i.b i.c)) ++ r).take (j - (num i.o.toNat).length)) (most := 21) (by omega)
    rw [h1]
    dsimp only
    rw [if_neg (fun h => h rfl)]
    have h2 := numR_cut _ r (j - (num i.o.toNat).length) (good_nums h) (by omega)
    rw [List.length_map, List.length_range] at h2
    exact h2
theorem manyR_cut : ∀ (l : List Ins) (r : List UInt8) (j : Nat), (∀ x ∈ l, insGood x) → j < (l.flatMap insB).length → (manyR l.length ((l.flatMap insB ++ r).take j)).2.2 = 4
  | [], r, j, _, hj => by simp at hj
  | x :: l, r, j, h, hj => by
    have hx := h x (List.mem_cons_self ..)
    rw [List.flatMap_cons, List.length_append] at hj
    show (manyR (l.length + 1) (((x :: l).flatMap insB ++ r).take j)).2.2 = 4
    rw [List.flatMap_cons, List.append_assoc, manyR]
    by_cases hs : j < (insB x).length
    · have h1 := insR_cut hx (l.flatMap insB ++ r) hs
      rw [if_pos (by rw [h1]; decide)]
      exact h1
    · rw [take_mid hs, insR_ins hx]
      dsimp only
      rw [if_neg (fun h => h rfl)]
      exact manyR_cut l r _ (fun y hy => h y (List.mem_cons_of_mem _ hy)) (by omega)
/-- EACH FRONT OF IT IS SHORT -/
theorem dec_cutF {l : List Ins} (h : (checkV l 256).2 = 0) {j : Nat} (hj : j < (encF l l.length).length) : decV ((encF l l.length).take j) = ([], 4) := by
  obtain ⟨hn, hg⟩ := check_good h
  unfold encF at hj ⊢
  rw [List.take_length] at hj ⊢
  rw [List.length_append] at hj
  unfold decV
  by_cases hs : j < (num l.length).length
  · rw [take_low hs, rnum_short (by omega) hs]
    dsimp only
    rw [if_pos (by decide)]
  · rw [take_mid hs]
    have h1 := rnum_num (m := l.length) (by omega) ((l.flatMap insB).take (j - (num l.length).length)) (most := 2048) hn.2
    rw [h1]
    dsimp only
    rw [if_neg (fun h => h rfl)]
    have h2 := manyR_cut l [] (j - (num l.length).length) hg (by omega)
    rw [List.append_nil] at h2
    rw [h2, if_pos (by decide)]
#print axioms dec_cutF
end Go.Proofs.YtibmkihehaedjaaDoor
