/-
  tree: nodes, paths and roots, as functions. No program is named here.
-/
import Derived.Test.YtbejjmmopdcjoaaDoorHByt0
import Derived.Test.YtbejjmmopdcjoaaDoorHDig
namespace Go.Proofs.YtbejjmmopdcjoaaDoor
open Go.RowKit

def leafB : List UInt8 := [108, 101, 97, 102]
def noneB : List UInt8 := [110, 111, 110, 101]
def rootB (h : Nat) : List UInt8 := [114, 111, 111, 116] ++ (if h < 10 then [UInt8.ofNat (48 + h)] else [49, UInt8.ofNat (48 + (h - 10))])
def lowN (x : Nat) : Nat := wordN x leafB
def lackT : Nat := wordN 0 noneB
def rootN (x h : Nat) : Nat := wordN x (rootB h)
theorem rootB_len (h : Nat) : (rootB h).length < 7 := by
  unfold rootB
  by_cases h1 : h < 10
  · rw [if_pos h1]; simp
  · rw [if_neg h1]; simp
theorem lowN_lt {x : Nat} (h : x < 18446744073709551616) : lowN x < 18446744073709551616 := wordN_lt h (by simp [leafB])
theorem lackT_lt : lackT < 18446744073709551616 := wordN_lt (by omega) (by simp [noneB])
theorem rootN_lt {x h : Nat} (hx : x < 18446744073709551616) : rootN x h < 18446744073709551616 := wordN_lt hx (by have := rootB_len h; omega)

/-- the node of a place on a level -/
def nd (l : List Nat) : Nat → Nat → Nat
  | 0, k => if k < l.length then lowN (l.getD k 0) else lackT
  | h + 1, k => twoN (nd l h (2 * k)) (nd l h (2 * k + 1))
abbrev Small (l : List Nat) : Prop := ∀ x ∈ l, x < 18446744073709551616
theorem small_getD {l : List Nat} (h : Small l) (k : Nat) : l.getD k 0 < 18446744073709551616 := by
  by_cases hk : k < l.length
  · exact h _ (by rw [show l.getD k 0 = l[k] by simp [hk]]; exact List.getElem_mem _)
  · rw [show l.getD k 0 = 0 by simp [List.getD, hk]]
    omega
theorem nd_lt {l : List Nat} (hl : Small l) : ∀ h k, nd l h k < 18446744073709551616
  | 0, k => by
    unfold nd
    split
    · exact lowN_lt (small_getD hl k)
    · exact lackT_lt
  | h + 1, k => twoN_lt (nd_lt hl h _) (nd_lt hl h _)
theorem small_nil : Small [] := fun _ h => by cases h
theorem pow_more (h : Nat) : 2 ^ (h + 1) = 2 * 2 ^ h := by rw [Nat.pow_succ, Nat.mul_comm]
theorem nd_nil : ∀ h k, nd [] h k = nd [] h 0
  | 0, _ => rfl
  | h + 1, k => by
    show twoN (nd [] h (2 * k)) (nd [] h (2 * k + 1)) = twoN (nd [] h (2 * 0)) (nd [] h (2 * 0 + 1))
    rw [nd_nil h (2 * k), nd_nil h (2 * k + 1), nd_nil h (2 * 0), nd_nil h (2 * 0 + 1)]
theorem nd_blank {l : List Nat} : ∀ h k, l.length ≤ k * 2 ^ h → nd l h k = nd [] h 0
  | 0, k, hk => by
    unfold nd
    rw [if_neg (by omega)]
    rfl
  | h + 1, k, hk => by
    have h1 : l.length ≤ (2 * k) * 2 ^ h := by rw [pow_more, ← Nat.mul_assoc, Nat.mul_comm k 2] at hk; exact hk
    have h2 : l.length ≤ (2 * k + 1) * 2 ^ h := Nat.le_trans h1 (Nat.mul_le_mul_right _ (by omega))
    show twoN (nd l h (2 * k)) (nd l h (2 * k + 1)) = twoN (nd [] h (2 * 0)) (nd [] h (2 * 0 + 1))
    rw [nd_blank h _ h1, nd_blank h _ h2, nd_nil h (2 * 0), nd_nil h (2 * 0 + 1)]
def lacks (h : Nat) : Nat := nd [] h 0
theorem lacks_lt (h : Nat) : lacks h < 18446744073709551616 := nd_lt small_nil h 0
theorem lacks_zero : lacks 0 = lackT := by unfold lacks nd; simp
theorem lacks_more (h : Nat) : twoN (lacks h) (lacks h) = lacks (h + 1) := by
  show _ = twoN (nd [] h (2 * 0)) (nd [] h (2 * 0 + 1))
  rw [nd_nil h (2 * 0), nd_nil h (2 * 0 + 1)]
  rfl

/-- how many nodes of a level stand above a leaf -/
def wid (n : Nat) : Nat → Nat
  | 0 => n
  | h + 1 => (wid n h + wid n h % 2) / 2
theorem wid_pos {n : Nat} (hn : 0 < n) : ∀ h, 0 < wid n h
  | 0 => hn
  | h + 1 => by have := wid_pos hn h; unfold wid; omega
theorem wid_le {n : Nat} : ∀ h, wid n h ≤ n
  | 0 => Nat.le_refl _
  | h + 1 => by have := wid_le (n := n) h; unfold wid; omega
theorem wid_ge (n : Nat) : ∀ h, n ≤ wid n h * 2 ^ h
  | 0 => by simp [wid]
  | h + 1 => by
    have h1 := wid_ge n h
    have h2 : wid n h ≤ (wid n h + wid n h % 2) / 2 * 2 := by omega
    have h3 := Nat.mul_le_mul_right (2 ^ h) h2
    unfold wid
    rw [pow_more, ← Nat.mul_assoc]
    omega
theorem wid_lt (n : Nat) : ∀ h, wid n h * 2 ^ h < n + 2 ^ h
  | 0 => by simp [wid]
  | h + 1 => by
    have h1 := wid_lt n h
    have h2 : (wid n h + wid n h % 2) / 2 * 2 ≤ wid n h + 1 := by omega
    have h3 := Nat.mul_le_mul_right (2 ^ h) h2
    rw [Nat.add_mul, Nat.one_mul] at h3
    unfold wid
    rw [pow_more, ← Nat.mul_assoc]
    omega
theorem wid_top {n h : Nat} (hn : 0 < n) (hh : n ≤ 2 ^ h) : wid n h = 1 := by
  have h1 := wid_lt n h
  have h2 := wid_pos hn h
  have h3 : wid n h < 2 := by
    rcases Nat.lt_or_ge (wid n h) 2 with h3 | h3
    · exact h3
    · have := Nat.mul_le_mul_right (2 ^ h) h3
      omega
  omega
theorem place_lt {n i : Nat} (hi : i < n) (h : Nat) : i / 2 ^ h < wid n h := by
  have h1 := wid_ge n h
  exact Nat.div_lt_of_lt_mul (by rw [Nat.mul_comm]; omega)
/-- the nodes of a level that stand above a leaf -/
def level (l : List Nat) (h : Nat) : List Nat := (List.range (wid l.length h)).map (nd l h)
/-- and one more, where the last one would be alone -/
def levelP (l : List Nat) (h : Nat) : List Nat := (List.range (wid l.length h + wid l.length h % 2)).map (nd l h)
theorem level_len (l : List Nat) (h : Nat) : (level l h).length = wid l.length h := by simp [level]
theorem levelP_len (l : List Nat) (h : Nat) : (levelP l h).length = wid l.length h + wid l.length h % 2 := by simp [levelP]
theorem level_even {l : List Nat} {h : Nat} (he : wid l.length h % 2 = 0) : levelP l h = level l h := by unfold levelP level; rw [he]; rfl
theorem level_odd {l : List Nat} {h : Nat} (ho : wid l.length h % 2 = 1) : level l h ++ [lacks h] = levelP l h := by
  unfold levelP level
  rw [ho, List.range_succ, List.map_append]
  congr 1
  show _ = [nd l h (wid l.length h)]
  rw [nd_blank h _ (wid_ge _ h)]
  rfl
theorem levelP_get {l : List Nat} {h k : Nat} (hk : k < wid l.length h + wid l.length h % 2) : (levelP l h).getD k 0 = nd l h k := by
  simp [levelP, List.getD, hk]
theorem level_get {l : List Nat} {h k : Nat} (hk : k < wid l.length h) : (level l h).getD k 0 = nd l h k := by
  simp [level, List.getD, hk]
/-- nodes that come together by two -/
def pairs (xs : List Nat) (m : Nat) : List Nat := (List.range m).map fun k => twoN (xs.getD (2 * k) 0) (xs.getD (2 * k + 1) 0)
theorem pairs_level (l : List Nat) (h : Nat) : pairs (levelP l h) (wid l.length (h + 1)) = level l (h + 1) := by
  unfold pairs level
  apply List.map_congr_left
  intro k hk
  have hk' := List.mem_range.1 hk
  have e : wid l.length (h + 1) = (wid l.length h + wid l.length h % 2) / 2 := rfl
  rw [levelP_get (by omega), levelP_get (by omega)]
  rfl
theorem level_small {l : List Nat} (hl : Small l) (h : Nat) : Small (level l h) := by
  intro x hx
  obtain ⟨k, _, rfl⟩ := List.mem_map.1 hx
  exact nd_lt hl h k
theorem levelP_small {l : List Nat} (hl : Small l) (h : Nat) : Small (levelP l h) := by
  intro x hx
  obtain ⟨k, _, rfl⟩ := List.mem_map.1 hx
  exact nd_lt hl h k
theorem level_zero (l : List Nat) : level l 0 = l.map lowN := by
  unfold level
  show (List.range l.length).map (nd l 0) = _
  apply List.ext_getElem
  · simp
  · intro k h1 h2
    have hk : k < l.length := by simpa using h1
    simp [nd, hk]

/-- the other place under a node -/
def oth (k : Nat) : Nat := if k % 2 = 1 then k - 1 else k + 1
theorem oth_lt {n i : Nat} (hi : i < n) (h : Nat) : oth (i / 2 ^ h) < wid n h + wid n h % 2 := by
  have h1 := place_lt hi h
  revert h1
  generalize i / 2 ^ h = k
  intro h1
  unfold oth
  split <;> omega
def pathN (l : List Nat) (i H : Nat) : List Nat := (List.range H).map fun h => nd l h (oth (i / 2 ^ h))
theorem pathN_len (l : List Nat) (i H : Nat) : (pathN l i H).length = H := by simp [pathN]
theorem pathN_get {l : List Nat} {i H h : Nat} (hh : h < H) : (pathN l i H).getD h 0 = nd l h (oth (i / 2 ^ h)) := by simp [pathN, List.getD, hh]
theorem pathN_more (l : List Nat) (i H : Nat) : pathN l i (H + 1) = pathN l i H ++ [nd l H (oth (i / 2 ^ H))] := by unfold pathN; rw [List.range_succ, List.map_append]; rfl
theorem pathN_small {l : List Nat} (hl : Small l) (i H : Nat) : Small (pathN l i H) := by
  intro x hx
  obtain ⟨k, _, rfl⟩ := List.mem_map.1 hx
  exact nd_lt hl _ _
/-- up from a node of such a place -/
def climbN (x k : Nat) : List Nat → Nat
  | [] => x
  | p :: ps => climbN (if k % 2 = 1 then twoN p x else twoN x p) (k / 2) ps
theorem climbN_lt : ∀ (ps : List Nat) (x k : Nat), x < 18446744073709551616 → Small ps → climbN x k ps < 18446744073709551616
  | [], _, _, hx, _ => hx
  | p :: ps, x, k, hx, hp => by
    have h1 : p < 18446744073709551616 := hp p (List.mem_cons_self ..)
    refine climbN_lt ps _ _ ?_ (fun y hy => hp y (List.mem_cons_of_mem _ hy))
    split
    · exact twoN_lt h1 hx
    · exact twoN_lt hx h1
theorem climbN_on {x k : Nat} {ps : List Nat} {h : Nat} {q : Nat} (e : climbN x (k / 2 ^ h) (ps.drop h) = q) (hh : h < ps.length) : climbN (if (k / 2 ^ h) % 2 = 1 then twoN (ps.getD h 0) x else twoN x (ps.getD h 0)) (k / 2 ^ (h + 1)) (ps.drop (h + 1)) = q := by
  rw [List.drop_eq_getElem_cons hh, climbN] at e
  have e2 : ps[h] = ps.getD h 0 := by simp [hh]
  rw [e2, Nat.div_div_eq_div_mul, ← Nat.pow_succ] at e
  exact e
theorem climbN_end {x k : Nat} {ps : List Nat} {q : Nat} (e : climbN x (k / 2 ^ ps.length) (ps.drop ps.length) = q) : x = q := by
  rw [List.drop_length, climbN] at e
  exact e
def withN (i leaf : Nat) (ps : List Nat) : Nat := rootN (climbN (lowN leaf) i ps) ps.length
theorem withN_lt {i leaf : Nat} {ps : List Nat} (h : leaf < 18446744073709551616) (hp : Small ps) : withN i leaf ps < 18446744073709551616 := rootN_lt (climbN_lt _ _ _ (lowN_lt h) hp)
theorem nd_up (l : List Nat) (h k : Nat) : (if k % 2 = 1 then twoN (nd l h (oth k)) (nd l h k) else twoN (nd l h k) (nd l h (oth k))) = nd l (h + 1) (k / 2) := by
  show _ = twoN (nd l h (2 * (k / 2))) (nd l h (2 * (k / 2) + 1))
  unfold oth
  by_cases hk : k % 2 = 1
  · rw [if_pos hk, if_pos hk, show 2 * (k / 2) = k - 1 by omega, show k - 1 + 1 = k by omega]
  · rw [if_neg hk, if_neg hk, show 2 * (k / 2) = k by omega]
theorem climb_path (l : List Nat) (i : Nat) : ∀ (d H h : Nat), h + d = H → climbN (nd l h (i / 2 ^ h)) (i / 2 ^ h) ((pathN l i H).drop h) = nd l H (i / 2 ^ H)
  | 0, H, h, e => by
    obtain rfl : h = H := by omega
    rw [List.drop_of_length_le (by rw [pathN_len]; exact Nat.le_refl _)]
    rfl
  | d + 1, H, h, e => by
    have hh : h < (pathN l i H).length := by rw [pathN_len]; omega
    rw [List.drop_eq_getElem_cons hh, climbN]
    have e2 : (pathN l i H)[h] = nd l h (oth (i / 2 ^ h)) := by simp [pathN]
    rw [e2, nd_up, Nat.div_div_eq_div_mul, ← Nat.pow_succ]
    exact climb_path l i d H (h + 1) (by omega)
/-- the root of leaves, at such a height -/
def treeN (l : List Nat) (H : Nat) : Nat := rootN (nd l H 0) H
theorem treeN_lt {l : List Nat} (hl : Small l) (H : Nat) : treeN l H < 18446744073709551616 := rootN_lt (nd_lt hl _ _)
theorem with_path {l : List Nat} {i H : Nat} (hi : i < l.length) (hH : l.length ≤ 2 ^ H) : withN i (l.getD i 0) (pathN l i H) = treeN l H := by
  have h := climb_path l i H H 0 (by omega)
  rw [List.drop_zero, Nat.pow_zero, Nat.div_one, Nat.div_eq_of_lt (show i < 2 ^ H by omega)] at h
  unfold withN treeN
  rw [pathN_len, ← h]
  unfold nd
  rw [if_pos hi]
theorem nd_set (l : List Nat) (i x : Nat) : ∀ h k, k ≠ i / 2 ^ h → nd (l.set i x) h k = nd l h k
  | 0, k, hk => by
    rw [Nat.pow_zero, Nat.div_one] at hk
    unfold nd
    rw [List.length_set]
    by_cases h1 : k < l.length
    · rw [if_pos h1, if_pos h1]
      congr 1
      simp [List.getD, Ne.symm hk]
    · rw [if_neg h1, if_neg h1]
  | h + 1, k, hk => by
    have e : i / 2 ^ (h + 1) = i / 2 ^ h / 2 := by rw [Nat.div_div_eq_div_mul, ← Nat.pow_succ]
    show twoN (nd (l.set i x) h (2 * k)) (nd (l.set i x) h (2 * k + 1)) = twoN (nd l h (2 * k)) (nd l h (2 * k + 1))
    rw [nd_set l i x h _ (by omega), nd_set l i x h _ (by omega)]
theorem path_set (l : List Nat) (i x H : Nat) : pathN (l.set i x) i H = pathN l i H := by
  unfold pathN
  apply List.map_congr_left
  intro h _
  refine nd_set l i x h _ ?_
  unfold oth
  split <;> omega

/-- how many levels are above so many leaves -/
def hgt (n : Nat) : Nat := if n ≤ 1 then 0 else Nat.log2 (n - 1) + 1
theorem hgt_ge (n : Nat) : n ≤ 2 ^ hgt n := by
  unfold hgt
  by_cases h : n ≤ 1
  · rw [if_pos h]; simpa using h
  · rw [if_neg h]
    have := Nat.lt_log2_self (n := n - 1)
    omega
theorem hgt_least {n h : Nat} (h1 : n ≤ 2 ^ h) : hgt n ≤ h := by
  unfold hgt
  by_cases h0 : n ≤ 1
  · rw [if_pos h0]; omega
  · rw [if_neg h0]
    have := (Nat.log2_lt (n := n - 1) (k := h) (by omega)).2 (by omega)
    omega
theorem hgt_le {n : Nat} (h : n ≤ 4096) : hgt n ≤ 12 := hgt_least (by omega)
#print axioms with_path
#print axioms path_set
#print axioms level_odd
#print axioms pairs_level
end Go.Proofs.YtbejjmmopdcjoaaDoor
