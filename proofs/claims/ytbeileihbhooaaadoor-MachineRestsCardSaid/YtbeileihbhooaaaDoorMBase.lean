/-
  machine: states as values: Clone, Right, Same, New: contracts.
-/
import Derived.Test.YtbeileihbhooaaaDoorMSt
import Derived.Test.YtbeileihbhooaaaDoorSchedC
import Derived.Lib.SliceRun
import Derived.Deep.QuietTactic
import Derived.BigQuiet
namespace Go.Proofs.YtbeileihbhooaaaDoor
open Go.RowKit

abbrev stV (pc : Int) (A : Option Addr) (n c : Nat) (halt : Int) : Value := .agg #[.int .i64 pc, .slice A n c, .int .i64 halt]
def sameM (s t : MS) : Bool := decide (s.pc = t.pc ∧ s.halt = t.halt ∧ s.mem = t.mem)
theorem sameM_self (s : MS) : sameM s s = true := decide_eq_true ⟨rfl, rfl, rfl⟩

/-- the call hands back a row of its own of these words, or nil -/
def MakesW (w : World) (n : Nat) (xs : List Int) (e : Ending) (w' : World) : Prop := ∃ A c, e = .returned (.slice A n c) ∧ OwnW w' 21 w.heap.size A n c xs ∧ Below w.heap.size w w'
set_option maxRecDepth 100000 in
set_option maxHeartbeats 400000 in
theorem cloneW_c (w : World) (A : Option Addr) (n c : Nat) (xs : List Int) (h : Hid (RdW w A n c xs)) (hn : n ≤ 1000000) : Calls Tryd.prog 40 #[.slice A n c] w (MakesW w n xs) := by
  cases A with
  | none =>
    obtain rfl := h.out.none_ rfl
    obtain rfl : n = 0 := by have := h.out.le; omega
    obtain rfl : xs = [] := List.eq_nil_of_length_eq_zero h.out.len
    clear h
    have heq := fun w => Lib.run_eql_slice_nil (P := Tryd.prog) w 23 21 none 0 0 0 0 Tryd.underlying23
    go_enter Tryd.func40, Tryd.ntmps40
    go_wp2_with fail
    go_ret
    exact ⟨none, 0, rfl, OwnW.nil _ _ _, Below.refl _ _⟩
  | some a =>
    have H := h
    have hle := h.out.le
    have hmx := h.out.max
    clear h
    have heq := fun w => Lib.run_eql_slice_nil (P := Tryd.prog) w 23 21 (some a) n c 0 0 Tryd.underlying23
    go_enter Tryd.func40, Tryd.ntmps40
    go_wp2_with (refine wpList_pushW_all (o := ⟨some 7, _, _, _, _, _⟩) rfl (.tmp 5) (.tmp 6) 23 23 rfl 21 Tryd.underlying23 infoW w.heap.size (some ⟨w.heap.size, 0, none⟩) 0 0 [] (by rfl) (OwnW.empty _ _) _ n xs (by rfl) ((H.out.ext (ext_alloc _ _)).src Tryd.underlying23) (by omega) (by simp) ?_; intro A3 c3 w3 hown3 hb3; go_simp)
    go_ret
    have h3 := hown3
    rw [Nat.zero_add] at h3
    exact ⟨A3, c3, by simp, h3, ((Below.refl _ _).alloc (Nat.le_refl _) _).trans hb3⟩

theorem full3f {w : World} {b : Nat} {T : TypeId} {x0 x1 x2 : Value} (h : w.heap[b]? = some (.cells #[x0, x1, x2] T (0, 0))) : w.cell? ⟨b, 0, none⟩ = some x0 ∧ w.cell? ⟨b, 1, none⟩ = some x1 ∧ w.cell? ⟨b, 2, none⟩ = some x2 ∧ w.frozen? ⟨b, 0, none⟩ = false ∧ w.frozen? ⟨b, 1, none⟩ = false ∧ w.frozen? ⟨b, 2, none⟩ = false :=
  ⟨(full3i h).1, (full3i h).2.1, (full3i h).2.2, by simp [World.frozen?, h], by simp [World.frozen?, h], by simp [World.frozen?, h]⟩
theorem set3M {w : World} {b : Nat} {T : TypeId} {x0 x1 x2 : Value} (h : w.heap[b]? = some (.cells #[x0, x1, x2] T (0, 0))) (y0 y1 y2 : Value) :
    (((w.setCell ⟨b, 0, none⟩ y0).setCell ⟨b, 1, none⟩ y1).setCell ⟨b, 2, none⟩ y2).heap[b]? = some (.cells #[y0, y1, y2] T (0, 0)) :=
  setM (j := 2) (setM (j := 1) (setM (j := 0) h y0) y1) y2
theorem bel3M {B : Nat} {w0 w : World} {b : Nat} (k : Below B w0 w) (hb : B ≤ b) (y0 y1 y2 : Value) : Below B w0 (((w.setCell ⟨b, 0, none⟩ y0).setCell ⟨b, 1, none⟩ y1).setCell ⟨b, 2, none⟩ y2) :=
  ((k.setCell (p := ⟨b, 0, none⟩) hb y0).setCell (p := ⟨b, 1, none⟩) hb y1).setCell (p := ⟨b, 2, none⟩) hb y2
theorem OwnW.far {w w' : World} {E : TypeId} {B : Nat} {A : Option Addr} {n c : Nat} {bs : List Int} (h : OwnW w E B A n c bs) {row : Option Nat} (k : w.grownBy w' row) (hr : ∀ g, row = some g → ∀ r, A = some r → r.block ≠ g) : OwnW w' E B A n c bs :=
  ⟨h.len, h.max, h.row.kept k (by
    cases hv : (Value.slice A n c).ownBlock with
    | none => exact .inl rfl
    | some g =>
      cases A with
      | none => simp [Value.ownBlock] at hv
      | some r =>
        simp [Value.ownBlock] at hv
        refine .inr fun e => ?_
        exact hr g e.symm r rfl hv)⟩
theorem OwnW.up {w : World} {E : TypeId} {B B' : Nat} {A : Option Addr} {n c : Nat} {bs : List Int} (h : OwnW w E B A n c bs) (hB : B' ≤ B) : OwnW w E B' A n c bs := by
  obtain ⟨h1, h2⟩ := h.row
  refine ⟨h.len, h.max, h1, ?_⟩
  rcases h2 with h2 | ⟨g, cap, cur, hv, hb, rest⟩
  · exact .inl h2
  · exact .inr ⟨g, cap, cur, hv, by omega, rest⟩

set_option maxRecDepth 100000 in
set_option maxHeartbeats 1000000 in
theorem right_s (w : World) (pc : Int) (A : Option Addr) (n c : Nat) (halt : Int) (m : List Int) (hl : m.length = n) (hnc : n ≤ c) : Calls Tryd.prog 25 #[stV pc A n c halt] w (Gives (.bool (rightM ⟨pc, m, halt⟩)) w) := by
  have HT : Hid (1 ≤ n ∧ n ≤ 256 ∧ 0 ≤ pc ∧ pc ≤ 2048 ∧ 0 ≤ halt ∧ halt ≤ 2 → rightM ⟨pc, m, halt⟩ = true) := fun h => decide_eq_true (by dsimp only; rw [hl]; exact h)
  have HF : Hid (¬ (1 ≤ n ∧ n ≤ 256 ∧ 0 ≤ pc ∧ pc ≤ 2048 ∧ 0 ≤ halt ∧ halt ≤ 2) → rightM ⟨pc, m, halt⟩ = false) := fun h => decide_eq_false (by dsimp only; rw [hl]; exact h)
  obtain ⟨R, hR⟩ : ∃ R, R = rightM ⟨pc, m, halt⟩ := ⟨_, rfl⟩
  rw [← hR] at HT HF ⊢
  clear hR hl
  by_cases c0 : 1 ≤ n
  case neg =>
    have HR := Lib.hid (HF.out (by omega))
    obtain rfl : n = 0 := by omega
    clear c0
    clear HT HF
    obtain rfl : R = false := HR.out
    clear HR
    go_enter Tryd.func25, Tryd.ntmps25
    go_wp2_with fail
    go_ret
    exact ⟨rfl, ext_alloc w _⟩
  by_cases c1 : n ≤ 256
  case neg =>
    have HR := Lib.hid (HF.out (by omega))
    have d1 : ¬ (n : Int) ≤ 256 := by omega
    have d0 : (1 : Int) ≤ (n : Int) := by omega
    clear HT HF
    obtain rfl : R = false := HR.out
    clear HR
    go_enter Tryd.func25, Tryd.ntmps25
    go_wp2_with fail
    go_ret
    exact ⟨rfl, ext_alloc w _⟩
  by_cases c2 : 0 ≤ pc
  case neg =>
    have HR := Lib.hid (HF.out (by omega))
    have d1 : (n : Int) ≤ 256 := by omega
    have d0 : (1 : Int) ≤ (n : Int) := by omega
    clear HT HF
    obtain rfl : R = false := HR.out
    clear HR
    go_enter Tryd.func25, Tryd.ntmps25
    go_wp2_with fail
    go_ret
    exact ⟨rfl, ext_alloc w _⟩
  by_cases c3 : pc ≤ 2048
  case neg =>
    have HR := Lib.hid (HF.out (by omega))
    have d1 : (n : Int) ≤ 256 := by omega
    have d0 : (1 : Int) ≤ (n : Int) := by omega
    clear HT HF
    obtain rfl : R = false := HR.out
    clear HR
    go_enter Tryd.func25, Tryd.ntmps25
    go_wp2_with fail
    go_ret
    exact ⟨rfl, ext_alloc w _⟩
  by_cases c4 : 0 ≤ halt
  case neg =>
    have HR := Lib.hid (HF.out (by omega))
    have d1 : (n : Int) ≤ 256 := by omega
    have d0 : (1 : Int) ≤ (n : Int) := by omega
    clear HT HF
    obtain rfl : R = false := HR.out
    clear HR
    go_enter Tryd.func25, Tryd.ntmps25
    go_wp2_with fail
    go_ret
    exact ⟨rfl, ext_alloc w _⟩
  by_cases c5 : halt ≤ 2
  case neg =>
    have HR := Lib.hid (HF.out (by omega))
    have d1 : (n : Int) ≤ 256 := by omega
    have d0 : (1 : Int) ≤ (n : Int) := by omega
    clear HT HF
    obtain rfl : R = false := HR.out
    clear HR
    go_enter Tryd.func25, Tryd.ntmps25
    go_wp2_with fail
    go_ret
    exact ⟨rfl, ext_alloc w _⟩
  have d1 : (n : Int) ≤ 256 := by omega
  have d0 : (1 : Int) ≤ (n : Int) := by omega
  have HR := Lib.hid (HT.out ⟨c0, c1, c2, c3, c4, c5⟩)
  clear HT HF
  obtain rfl : R = true := HR.out
  clear HR
  go_enter Tryd.func25, Tryd.ntmps25
  go_wp2_with fail
  go_ret
  exact ⟨rfl, ext_alloc w _⟩

set_option maxRecDepth 100000 in
set_option maxHeartbeats 1000000 in
theorem rright_s (w : World) (pc : Int) (A : Option Addr) (n c : Nat) (halt : Int) (m : List Int) (hl : m.length = n) (hnc : n ≤ c) : Calls Tryd.prog 22 #[stV pc A n c halt] w (Gives (.bool (rightM ⟨pc, m, halt⟩)) w) := by
  have HT : Hid (1 ≤ n ∧ n ≤ 256 ∧ 0 ≤ pc ∧ pc ≤ 2048 ∧ 0 ≤ halt ∧ halt ≤ 2 → rightM ⟨pc, m, halt⟩ = true) := fun h => decide_eq_true (by dsimp only; rw [hl]; exact h)
  have HF : Hid (¬ (1 ≤ n ∧ n ≤ 256 ∧ 0 ≤ pc ∧ pc ≤ 2048 ∧ 0 ≤ halt ∧ halt ≤ 2) → rightM ⟨pc, m, halt⟩ = false) := fun h => decide_eq_false (by dsimp only; rw [hl]; exact h)
  obtain ⟨R, hR⟩ : ∃ R, R = rightM ⟨pc, m, halt⟩ := ⟨_, rfl⟩
  rw [← hR] at HT HF ⊢
  clear hR hl
  by_cases c0 : 1 ≤ n
  case neg =>
    have HR := Lib.hid (HF.out (by omega))
    obtain rfl : n = 0 := by omega
    clear c0
    clear HT HF
    obtain rfl : R = false := HR.out
    clear HR
    go_enter Tryd.func22, Tryd.ntmps22
    go_wp2_with fail
    go_ret
    exact ⟨rfl, ext_alloc w _⟩
  by_cases c1 : n ≤ 256
  case neg =>
    have HR := Lib.hid (HF.out (by omega))
    have d1 : ¬ (n : Int) ≤ 256 := by omega
    have d0 : (1 : Int) ≤ (n : Int) := by omega
    clear HT HF
    obtain rfl : R = false := HR.out
    clear HR
    go_enter Tryd.func22, Tryd.ntmps22
    go_wp2_with fail
    go_ret
    exact ⟨rfl, ext_alloc w _⟩
  by_cases c2 : 0 ≤ pc
  case neg =>
    have HR := Lib.hid (HF.out (by omega))
    have d1 : (n : Int) ≤ 256 := by omega
    have d0 : (1 : Int) ≤ (n : Int) := by omega
    clear HT HF
    obtain rfl : R = false := HR.out
    clear HR
    go_enter Tryd.func22, Tryd.ntmps22
    go_wp2_with fail
    go_ret
    exact ⟨rfl, ext_alloc w _⟩
  by_cases c3 : pc ≤ 2048
  case neg =>
    have HR := Lib.hid (HF.out (by omega))
    have d1 : (n : Int) ≤ 256 := by omega
    have d0 : (1 : Int) ≤ (n : Int) := by omega
    clear HT HF
    obtain rfl : R = false := HR.out
    clear HR
    go_enter Tryd.func22, Tryd.ntmps22
    go_wp2_with fail
    go_ret
    exact ⟨rfl, ext_alloc w _⟩
  by_cases c4 : 0 ≤ halt
  case neg =>
    have HR := Lib.hid (HF.out (by omega))
    have d1 : (n : Int) ≤ 256 := by omega
    have d0 : (1 : Int) ≤ (n : Int) := by omega
    clear HT HF
    obtain rfl : R = false := HR.out
    clear HR
    go_enter Tryd.func22, Tryd.ntmps22
    go_wp2_with fail
    go_ret
    exact ⟨rfl, ext_alloc w _⟩
  by_cases c5 : halt ≤ 2
  case neg =>
    have HR := Lib.hid (HF.out (by omega))
    have d1 : (n : Int) ≤ 256 := by omega
    have d0 : (1 : Int) ≤ (n : Int) := by omega
    clear HT HF
    obtain rfl : R = false := HR.out
    clear HR
    go_enter Tryd.func22, Tryd.ntmps22
    go_wp2_with fail
    go_ret
    exact ⟨rfl, ext_alloc w _⟩
  have d1 : (n : Int) ≤ 256 := by omega
  have d0 : (1 : Int) ≤ (n : Int) := by omega
  have HR := Lib.hid (HT.out ⟨c0, c1, c2, c3, c4, c5⟩)
  clear HT HF
  obtain rfl : R = true := HR.out
  clear HR
  go_enter Tryd.func22, Tryd.ntmps22
  go_wp2_with fail
  go_ret
  exact ⟨rfl, ext_alloc w _⟩

theorem take_eq_succ {l r : List Int} {k : Nat} (h1 : k < l.length) (h2 : k < r.length) (h : l.take k = r.take k) (e : l.getD k 0 = r.getD k 0) : l.take (k + 1) = r.take (k + 1) := by
  rw [List.take_succ_eq_append_getElem h1, List.take_succ_eq_append_getElem h2, h]
  have a : l.getD k 0 = l[k] := by simp [List.getD, h1]
  have b : r.getD k 0 = r[k] := by simp [List.getD, h2]
  rw [← a, ← b, e]
set_option maxRecDepth 100000 in
set_option maxHeartbeats 1000000 in
theorem equalW_c (w : World) (A : Option Addr) (n c : Nat) (l : List Int) (h : Hid (RdW w A n c l)) (B : Option Addr) (m d : Nat) (r : List Int) (k : Hid (RdW w B m d r)) : Calls Tryd.prog 39 #[.slice A n c, .slice B m d] w (Gives (.bool (decide (l = r))) w) := by
  have hle := h.out.le
  have hmx := h.out.max
  have kle := k.out.le
  have kmx := k.out.max
  have HL := Lib.hid h.out.len
  have HM := Lib.hid k.out.len
  by_cases hnm : n = m
  · subst hnm
    go_enter Tryd.func39, Tryd.ntmps39
    go_wp2_with fail
    go_loopw [13] (fun iv wr => ∃ q : Nat, q ≤ n ∧ iv = .int .i64 q ∧ Hid (l.take q = r.take q) ∧ Hid (Below w.heap.size w wr)) (fun iv _ => n - (intOf iv).toNat)
    case atStart => exact ⟨0, Nat.zero_le _, rfl, rfl, Below.refl _ _⟩
    case round =>
      obtain ⟨q, hq, rfl, HE, HB⟩ := hrel
      by_cases hlt : q < n
      · obtain ⟨b, o, rfl, _, c0⟩ := (h.out.ext HB.out).at hlt
        obtain ⟨b', o', rfl, _, e0⟩ := (k.out.ext HB.out).at hlt
        obtain ⟨x, hx⟩ : ∃ x, x = l.getD q 0 := ⟨_, rfl⟩
        obtain ⟨y, hy⟩ : ∃ y, y = r.getD q 0 := ⟨_, rfl⟩
        rw [← hx] at c0
        rw [← hy] at e0
        have HX := Lib.hid hx
        have HY := Lib.hid hy
        clear hx hy
        have hltI : (q : Int) < (n : Int) := by omega
        have hqI : (0 : Int) ≤ (q : Int) := by omega
        by_cases hxy : x = y
        · have HS : Hid (l.take (q + 1) = r.take (q + 1)) := take_eq_succ (by rw [HL.out]; exact hlt) (by rw [HM.out]; exact hlt) HE.out (by rw [← HX.out, ← HY.out]; exact hxy)
          have hd : (x != y) = false := by rw [hxy]; exact bne_self_eq_false y
          clear hxy
          go_wp2_with fail
          go_quiet (fail)
          go_wp2_with fail
          exact ⟨⟨q + 1, by omega, by go_num, HS.out, ext_trans HB.out (ext_draws _ _)⟩, by simp [intOf]; omega⟩
        · have HF : Hid (decide (l = r) = false) := decide_eq_false (fun e => hxy (by rw [HX.out, HY.out, e]))
          have hd : (x != y) = true := by rw [bne_iff_ne]; exact hxy
          clear hxy
          go_wp2_with fail
          go_quiet (fail)
          go_wp2_with fail
          go_ret
          exact ⟨by rw [HF.out]; rfl, ext_trans HB.out (ext_draws _ _)⟩
      · obtain rfl : q = n := by omega
        have HT : Hid (decide (l = r) = true) := by
          have := HE.out
          rw [List.take_of_length_le (by rw [HL.out]; exact Nat.le_refl _), List.take_of_length_le (by rw [HM.out]; exact Nat.le_refl _)] at this
          exact decide_eq_true this
        go_wp2_with fail
        go_ret
        exact ⟨by rw [HT.out]; rfl, HB.out⟩
  · have HF : Hid (decide (l = r) = false) := decide_eq_false (fun e => hnm (by rw [← HL.out, ← HM.out, e]))
    have h1 : ((n : Int) != (m : Int)) = true := by rw [bne_iff_ne]; omega
    have h2 : (n != m) = true := by rw [bne_iff_ne]; exact hnm
    clear hnm
    go_enter Tryd.func39, Tryd.ntmps39
    go_wp2_with fail
    go_ret
    exact ⟨by rw [HF.out]; rfl, Below.refl _ _⟩
#print axioms equalW_c
#print axioms right_s
#print axioms rright_s
end Go.Proofs.YtbeileihbhooaaaDoor
