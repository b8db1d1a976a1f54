/-
  coin: Split's parts, as a function of lists: pure facts.
-/
import Derived.Test.YthdnfnilckjldaaCSplit1
namespace Go.Proofs.Ythdnfnilckjldaa

def shares (T W : Int) (xs : List Int) : List Int := xs.map (share T W)
/-- the ones that are left, from the front on -/
def ones : Int → List Int → List Int → List Int
  | r, p :: ps, w :: ws => if r = 0 then p :: ps else if 0 < w then (p + 1) :: ones (r - 1) ps ws else p :: ones r ps ws
  | _, ps, _ => ps
def parts (T W : Int) (xs : List Int) : List Int := ones (T - (shares T W xs).sum) (shares T W xs) xs

theorem ones_zero (ps ws : List Int) : ones 0 ps ws = ps := by
  cases ps <;> cases ws <;> simp [ones]
theorem ones_length : ∀ (ps ws : List Int) (r : Int), (ones r ps ws).length = ps.length
  | [], _, _ => by simp [ones]
  | _ :: _, [], _ => by simp [ones]
  | p :: ps, w :: ws, r => by
    unfold ones
    split
    · rfl
    · split <;> simp [ones_length ps ws]

theorem share_lo {T W x : Int} (hW : 1 ≤ W) : W * share T W x ≤ T * x := by
  unfold share
  have h1 := Int.mul_ediv_add_emod (T * x) W
  have h2 := Int.emod_nonneg (T * x) (show W ≠ 0 by omega)
  omega
theorem share_hi {T W x : Int} (hW : 1 ≤ W) : T * x < W * share T W x + W := by
  unfold share
  have h1 := Int.mul_ediv_add_emod (T * x) W
  have h2 := Int.emod_lt_of_pos (T * x) (show 0 < W by omega)
  omega
theorem share_zero (T W : Int) : share T W 0 = 0 := by simp [share]

/-- how many weights are not 0 -/
def pos (xs : List Int) : Int := (xs.filter fun x => decide (0 < x)).length
theorem pos_cons (x : Int) (xs : List Int) : pos (x :: xs) = (if 0 < x then 1 else 0) + pos xs := by
  unfold pos
  by_cases h : 0 < x <;> simp [h] <;> omega
theorem pos_nonneg (xs : List Int) : 0 ≤ pos xs := by unfold pos; omega

theorem shares_lo {T W : Int} (hW : 1 ≤ W) : ∀ (xs : List Int), W * (shares T W xs).sum ≤ T * xs.sum
  | [] => by simp [shares]
  | x :: xs => by
    have h1 := share_lo (T := T) (x := x) hW
    have h2 := shares_lo (T := T) hW xs
    simp only [shares, List.map_cons, List.sum_cons, Int.mul_add] at *
    omega
theorem shares_hi {T W : Int} (hW : 1 ≤ W) : ∀ (xs : List Int), (∀ x ∈ xs, 0 ≤ x) → T * xs.sum ≤ W * (shares T W xs).sum + (W - 1) * pos xs
  | [], _ => by simp [shares, pos]
  | x :: xs, h => by
    have h1 := share_hi (T := T) (x := x) hW
    have h2 := shares_hi (T := T) hW xs (fun y hy => h y (List.mem_cons_of_mem _ hy))
    have h3 := h x (List.mem_cons_self ..)
    rw [pos_cons]
    by_cases hx : 0 < x
    · simp only [shares, List.map_cons, List.sum_cons, Int.mul_add, if_pos hx] at *
      omega
    · obtain rfl : x = 0 := by omega
      simp only [shares, List.map_cons, List.sum_cons, Int.mul_add, if_neg hx, share_zero] at *
      omega
/-- what is left for the ones -/
theorem left_range {T W : Int} {xs : List Int} (hW : 1 ≤ W) (h : ∀ x ∈ xs, 0 ≤ x) (hs : xs.sum = W) :
    0 ≤ T - (shares T W xs).sum ∧ T - (shares T W xs).sum ≤ pos xs := by
  have h1 := shares_lo (T := T) hW xs
  have h2 := shares_hi (T := T) hW xs h
  have h3 := pos_nonneg xs
  rw [hs] at h1 h2
  rw [Int.mul_comm T W] at h1 h2
  have h4 : (shares T W xs).sum ≤ T := Int.le_of_mul_le_mul_left h1 (by omega)
  refine ⟨by omega, ?_⟩
  have h5 : W * T ≤ W * ((shares T W xs).sum + pos xs) := by
    rw [Int.mul_add]
    have : (W - 1) * pos xs ≤ W * pos xs := Int.mul_le_mul_of_nonneg_right (by omega) h3
    omega
  have h6 := Int.le_of_mul_le_mul_left h5 (by omega)
  omega
theorem ones_sum : ∀ (ps ws : List Int) (r : Int), ps.length = ws.length → 0 ≤ r → r ≤ pos ws → (ones r ps ws).sum = ps.sum + r
  | [], [], r, _, h0, h1 => by simp [ones, pos] at *; omega
  | p :: ps, w :: ws, r, hl, h0, h1 => by
    rw [pos_cons] at h1
    unfold ones
    split
    · rename_i h; subst h; simp
    · split
      · rename_i hr hw
        rw [List.sum_cons, List.sum_cons, ones_sum ps ws (r - 1) (by simpa using hl) (by omega) (by rw [if_pos hw] at h1; omega)]
        omega
      · rename_i hr hw
        rw [List.sum_cons, List.sum_cons, ones_sum ps ws r (by simpa using hl) (by omega) (by rw [if_neg hw] at h1; omega)]
        omega
theorem parts_sum {T W : Int} {xs : List Int} (hW : 1 ≤ W) (h : ∀ x ∈ xs, 0 ≤ x) (hs : xs.sum = W) : (parts T W xs).sum = T := by
  obtain ⟨h1, h2⟩ := left_range hW h hs
  unfold parts
  rw [ones_sum _ _ _ (by simp [shares]) h1 h2]
  omega
theorem ones_at : ∀ (ps ws : List Int) (r : Int) (i : Nat), ps.length = ws.length → i < ps.length → 
    (ones r ps ws).getD i 0 = ps.getD i 0 ∨ (0 < ws.getD i 0 ∧ (ones r ps ws).getD i 0 = ps.getD i 0 + 1)
  | p :: ps, w :: ws, r, i, hl, hi => by
    unfold ones
    split
    · exact .inl rfl
    · split
      · rename_i hr hw
        cases i with
        | zero => exact .inr ⟨by simpa using hw, by simp⟩
        | succ i => simpa using ones_at ps ws (r - 1) i (by simpa using hl) (by simpa using hi)
      · cases i with
        | zero => exact .inl (by simp)
        | succ i => simpa using ones_at ps ws r i (by simpa using hl) (by simpa using hi)
theorem weighF_sum : ∀ (xs : List Int) (t W : Int), weighF t xs = (W, 0) → W = t + xs.sum
  | [], t, W, h => by
    unfold weighF at h
    split at h
    · simp at h
    · simp at h; simp; omega
  | x :: xs, t, W, h => by
    unfold weighF at h
    split at h
    · simp at h
    · have := weighF_sum xs _ _ h; simp; omega
theorem weigh_sum {xs : List Int} {W : Int} (h : weigh xs = (W, 0)) : xs.sum = W := by
  unfold weigh at h
  split at h
  · simp at h
  · have := weighF_sum xs 0 W h; omega

/-! what a loop over places does -/
theorem shares_length (T W : Int) (xs : List Int) : (shares T W xs).length = xs.length := by simp [shares]
theorem shares_getD {T W : Int} {xs : List Int} {k : Nat} (h : k < xs.length) : (shares T W xs).getD k 0 = share T W (xs.getD k 0) := by
  simp [shares, h]
theorem take_succ_getD {l : List Int} {k : Nat} (h : k < l.length) : l.take (k + 1) = l.take k ++ [l.getD k 0] := by
  rw [List.take_succ_eq_append_getElem h]; simp [h]
theorem sum_take_succ {l : List Int} {k : Nat} (h : k < l.length) : (l.take (k + 1)).sum = (l.take k).sum + l.getD k 0 := by
  rw [take_succ_getD h]; simp
theorem getD_snoc {l : List Int} {i : Nat} {x : Int} (h : l.length = i) : (l ++ [x]).getD i 0 = x := by subst h; simp
theorem fill_step {l : List Int} {k : Nat} (h : k < l.length) : (l.take k ++ List.replicate (l.length - k) 0).set k (l.getD k 0) = l.take (k + 1) ++ List.replicate (l.length - (k + 1)) 0 := by
  rw [List.set_append_right _ _ (by simp; omega), take_succ_getD h]
  have e : l.length - k = (l.length - (k + 1)) + 1 := by omega
  rw [e, List.replicate_succ]
  simp [Nat.min_eq_left (Nat.le_of_lt h)]

/-- the ones, as far as the place k -/
structure Onto (T W : Int) (xs cur : List Int) (k : Nat) (r : Int) : Prop where
  len : cur.length = xs.length
  tail : cur.drop k = (shares T W xs).drop k
  fin : cur.take k ++ ones r (cur.drop k) (xs.drop k) = parts T W xs
  room : 0 ≤ r
  most : r ≤ 1125899906842624
theorem Onto.start {T W : Int} {xs : List Int} (h0 : 0 ≤ T - (shares T W xs).sum) (h1 : T - (shares T W xs).sum ≤ 1125899906842624) : Onto T W xs (shares T W xs) 0 (T - (shares T W xs).sum) :=
  ⟨by simp [shares], rfl, by simp [parts], h0, h1⟩
theorem Onto.stop {T W : Int} {xs cur : List Int} {k : Nat} (h : Onto T W xs cur k 0) : cur = parts T W xs := by
  have := h.fin
  rw [ones_zero, List.take_append_drop] at this
  exact this
theorem Onto.done {T W : Int} {xs cur : List Int} {k : Nat} {r : Int} (h : Onto T W xs cur k r) (hk : xs.length ≤ k) : cur = parts T W xs := by
  have := h.fin
  rw [List.drop_eq_nil_of_le (by rw [h.len]; exact hk), List.take_of_length_le (by rw [h.len]; exact hk)] at this
  simpa [ones] using this
theorem Onto.at {T W : Int} {xs cur : List Int} {k : Nat} {r : Int} (h : Onto T W xs cur k r) (hk : k < xs.length) : cur.getD k 0 = share T W (xs.getD k 0) := by
  have h1 : (cur.drop k).getD 0 0 = ((shares T W xs).drop k).getD 0 0 := by rw [h.tail]
  rw [← shares_getD hk]
  simpa using h1
theorem Onto.skip {T W : Int} {xs cur : List Int} {k : Nat} {r : Int} (h : Onto T W xs cur k r) (hk : k < xs.length) (hr : r ≠ 0) (hw : ¬ 0 < xs.getD k 0) : Onto T W xs cur (k + 1) r := by
  have hc : k < cur.length := by rw [h.len]; exact hk
  refine ⟨h.len, ?_, ?_, h.room, h.most⟩
  · have := congrArg (List.drop 1) h.tail
    simpa [List.drop_drop] using this
  · have := h.fin
    rw [List.drop_eq_getElem_cons hc, List.drop_eq_getElem_cons hk, ones, if_neg hr, if_neg (by simpa [hk] using hw)] at this
    rw [← this, List.take_succ_eq_append_getElem hc, List.append_assoc]
    rfl
theorem Onto.one {T W : Int} {xs cur : List Int} {k : Nat} {r : Int} (h : Onto T W xs cur k r) (hk : k < xs.length) (hr : r ≠ 0) (hw : 0 < xs.getD k 0) : Onto T W xs (cur.set k (cur.getD k 0 + 1)) (k + 1) (r - 1) := by
  have hc : k < cur.length := by rw [h.len]; exact hk
  have h0 := h.room
  have h1 := h.most
  have hd : (cur.set k (cur.getD k 0 + 1)).drop (k + 1) = cur.drop (k + 1) := by rw [List.drop_set_of_lt (by omega)]
  refine ⟨by rw [List.length_set]; exact h.len, ?_, ?_, by omega, by omega⟩
  · rw [hd]
    have := congrArg (List.drop 1) h.tail
    simpa [List.drop_drop] using this
  · have := h.fin
    rw [List.drop_eq_getElem_cons hc, List.drop_eq_getElem_cons hk, ones, if_neg hr, if_pos (by simpa [hk] using hw)] at this
    rw [hd, ← this, take_succ_getD (by rw [List.length_set]; exact hc), List.take_set_of_le (Nat.le_refl _)]
    simp [hc]
#print axioms Onto.one
end Go.Proofs.Ythdnfnilckjldaa
