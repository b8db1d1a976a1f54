/-
  code: the first instruction that may not be; instructions as the program's: contracts.
-/
import Derived.Test.YtibmkihehaedjaaDoorGIns
import Derived.Test.YtibmkihehaedjaaDoorGRight
import Derived.Test.YtibmkihehaedjaaDoorGRRight
namespace Go.Proofs.YtibmkihehaedjaaDoor
open Go.RowKit

theorem getD_at {l : List Ins} {k : Nat} (hk : k < l.length) : l.getD k noIns = l[k] := by simp [List.getD, hk]
theorem take_snocI {l : List Ins} {k : Nat} (hk : k < l.length) : l.take (k + 1) = l.take k ++ [l.getD k noIns] := by
  rw [List.take_succ_eq_append_getElem hk, getD_at hk]

/-- a call that answers a slice of these instructions, of the call's own -/
def Inss (w : World) (l : List Ins) (e : Ending) (w' : World) : Prop := ∃ A c, e = .returned (.slice A l.length c) ∧ RdS w' A l.length c l ∧ Below w.heap.size w w'

set_option maxRecDepth 100000 in
set_option maxHeartbeats 1000000 in
theorem of_c (w : World) (A : Option Addr) (n c : Nat) (l : List Ins) (h : Hid (RdS w A n c l)) (hn : n ≤ 300) : Calls Tryd.prog 11 #[.slice A n c] w (Inss w l) := by
  have HL := Lib.hid h.out.len
  have hle := h.out.le
  have hmx := h.out.max
  go_enter Tryd.func11, Tryd.ntmps11
  go_wp2_with fail
  go_loopw [3, 8] (fun lv iv wr => ∃ (k : Nat) (B : Option Addr) (d : Nat), k ≤ n ∧ iv = .int .i64 k ∧ lv = .slice B k d ∧ Hid (OwnS wr 33 w.heap.size B k d (l.take k)) ∧ Hid (Below w.heap.size w wr)) (fun _ iv _ => n - (intOf iv).toNat)
  case atStart => exact ⟨0, none, 0, Nat.zero_le _, rfl, rfl, by show OwnS _ _ _ _ _ _ _; rw [List.take_zero]; exact OwnS.void _ _ _, Below.refl _ _⟩
  case round =>
    obtain ⟨k, B, d, hk, rfl, rfl, HO, HB⟩ := hrel
    by_cases hlt : k < n
    · have hlen : k < l.length := by rw [HL.out]; exact hlt
      obtain ⟨b, o, rfl, hbo, c0, c1, c2, c3⟩ := (h.out.ext HB.out).at hlt
      obtain ⟨y, hy⟩ : ∃ y, y = l.getD k noIns := ⟨_, rfl⟩
      rw [← hy] at c0 c1 c2 c3
      have HY := Lib.hid hy
      have hltI : (k : Int) < (n : Int) := by omega
      have hkI : (0 : Int) ≤ (k : Int) := by omega
      have hk3 : k < 300 := by omega
      clear hy
      go_upto_region 5 with fail
      clear c0 c1 c2 c3
      obtain ⟨g, hg⟩ : ∃ g, g = wr.heap.size := ⟨_, rfl⟩
      obtain ⟨U, hU⟩ : ∃ U, U = World.alloc wr (.cells #[.int .i64 y.o, .int .i64 y.a, .int .i64 y.b, .int .i64 y.c] 23) := ⟨_, rfl⟩
      have C : Hid (U.heap[g]? = some (.cells #[.int .i64 y.o, .int .i64 y.a, .int .i64 y.b, .int .i64 y.c] 23 (0, 0))) := by rw [hU, hg]; exact Go.heap_alloc_new wr _
      have BU : Hid (Below wr.heap.size wr U) := by rw [hU]; exact ext_alloc wr _
      replace HO := Lib.hid (HO.out.ext BU.out)
      replace HB := Lib.hid (ext_trans HB.out BU.out)
      rw [← hU, ← hg]
      clear hU hg BU
      obtain ⟨x0, x1, x2, x3⟩ := full4i C.out
      go_wp2_with (refine wpList_pushS 29 33 Tryd.underlying29 infoCI (o := ⟨some 15, _, _, _, _, _⟩) rfl (.tmp 12) (.tmp 14) rfl w.heap.size _ _ _ _ (by rfl) HO.out y (by rfl) (by omega) HB.out.size ?_; intro B' d' w' ho' hb'; have HO2 := Lib.hid ho'; have HB2 := Lib.hid hb'; clear ho' hb' x0 x1 x2 x3; go_simp)
      exact ⟨⟨k + 1, B', d', by omega, by go_num, rfl, by
        show OwnS _ _ _ _ _ _ _
        rw [take_snocI (by rw [HL.out]; exact hlt), ← HY.out]; exact HO2.out, HB.out.trans HB2.out⟩, by simp [intOf]; omega⟩
    · obtain rfl : k = n := by omega
      have HE : Hid (OwnS wr 33 w.heap.size B k d l) := by
        have := HO.out
        rw [List.take_of_length_le (by rw [HL.out]; exact Nat.le_refl _)] at this
        exact this
      go_wp2_with fail
      go_ret
      exact ⟨B, d, by rw [HL.out]; rfl, by rw [HL.out]; exact HE.out.rd, HB.out⟩

/-- may it be, as Bool of an instruction -/
def rightI (size words : Int) (i : Ins) : Bool := rightV i.o i.a i.b i.c size words
/-- the first one that may not be -/
def firstI (size words : Int) : List Ins → Nat → Int × Int
  | [], _ => (-1, 0)
  | i :: l, k => if rightI size words i = true then firstI size words l (k + 1) else ((k : Int), 3)
def checkV (l : List Ins) (words : Int) : Int × Int := if words < 1 ∨ 256 < words ∨ l.length < 1 ∨ 2048 < l.length then (-1, 2) else firstI l.length words l 0
theorem firstI_step {size words : Int} {l : List Ins} {k : Nat} (hk : k < l.length) : firstI size words (l.drop k) k = if rightI size words (l.getD k noIns) = true then firstI size words (l.drop (k + 1)) (k + 1) else ((k : Int), 3) := by
  rw [List.drop_eq_getElem_cons hk, getD_at hk]
  conv => lhs; unfold firstI
def PairI (w : World) (p : Int × Int) (e : Ending) (w' : World) : Prop := e = .returned (.tuple #[.int .i64 p.1, .int .i64 p.2]) ∧ Below w.heap.size w w'

set_option maxRecDepth 100000 in
set_option maxHeartbeats 2000000 in
theorem check_c (w : World) (hf : Hid (Forms w)) (A : Option Addr) (n c : Nat) (l : List Ins) (h : Hid (RdS w A n c l)) (words : Int) : Calls Tryd.prog 10 #[.slice A n c, .int .i64 words] w (PairI w (checkV l words)) := by
  have HL := Lib.hid h.out.len
  have hle := h.out.le
  have hmx := h.out.max
  by_cases h1 : words < 1
  · have HV : Hid (checkV l words = (-1, 2)) := by show _ = _; unfold checkV; rw [if_pos (.inl h1)]
    rw [HV.out]
    go_enter Tryd.func10, Tryd.ntmps10
    go_wp2_with fail
    go_ret2
    exact ⟨rfl, Below.refl _ _⟩
  by_cases h2 : 256 < words
  · have HV : Hid (checkV l words = (-1, 2)) := by show _ = _; unfold checkV; rw [if_pos (.inr (.inl h2))]
    rw [HV.out]
    go_enter Tryd.func10, Tryd.ntmps10
    go_wp2_with fail
    go_ret2
    exact ⟨rfl, Below.refl _ _⟩
  by_cases h3 : n = 0
  · have HV : Hid (checkV l words = (-1, 2)) := by show _ = _; unfold checkV; rw [if_pos (.inr (.inr (.inl (by rw [HL.out]; omega))))]
    rw [HV.out]
    subst h3
    go_enter Tryd.func10, Tryd.ntmps10
    go_wp2_with fail
    go_ret2
    exact ⟨rfl, Below.refl _ _⟩
  by_cases h4 : 2048 < n
  · have HV : Hid (checkV l words = (-1, 2)) := by show _ = _; unfold checkV; rw [if_pos (.inr (.inr (.inr (by rw [HL.out]; exact h4))))]
    rw [HV.out]
    have h5 : (2048 : Int) < (n : Int) := by omega
    have h6 : ¬ (n : Int) < 1 := by omega
    have h7 : ((n : Int) == 0) = false := by rw [beq_eq_false_iff_ne]; omega
    clear h3
    go_enter Tryd.func10, Tryd.ntmps10
    go_wp2_with fail
    go_ret2
    exact ⟨rfl, Below.refl _ _⟩
  have HV : Hid (checkV l words = firstI n words (l.drop 0) 0) := by show _ = _; unfold checkV; rw [if_neg (by rw [HL.out]; omega), HL.out]; rfl
  have h5 : ¬ (2048 : Int) < (n : Int) := by omega
  have h6 : ¬ (n : Int) < 1 := by omega
  have h7 : ((n : Int) == 0) = false := by rw [beq_eq_false_iff_ne]; omega
  clear h3
  go_enter Tryd.func10, Tryd.ntmps10
  go_wp2_with fail
  clear h7
  go_loopw [26] (fun iv wr => ∃ k : Nat, k ≤ n ∧ iv = .int .i64 k ∧ Hid (checkV l words = firstI n words (l.drop k) k) ∧ Hid (Below w.heap.size w wr)) (fun iv _ => n - (intOf iv).toNat)
  case atStart => exact ⟨0, Nat.zero_le _, rfl, HV.out, by first | exact Below.refl _ _ | exact ext_alloc _ _⟩
  case round =>
    clear HV
    obtain ⟨k, hk, rfl, HV, HB⟩ := hrel
    by_cases hlt : k < n
    · obtain ⟨b, o, rfl, hbo, c0, c1, c2, c3⟩ := (h.out.ext HB.out).at hlt
      obtain ⟨y, hy⟩ : ∃ y, y = l.getD k noIns := ⟨_, rfl⟩
      rw [← hy] at c0 c1 c2 c3
      have HS : Hid (checkV l words = if rightI n words y = true then firstI n words (l.drop (k + 1)) (k + 1) else ((k : Int), 3)) := by
        show _ = _
        rw [HV.out, firstI_step (by rw [HL.out]; exact hlt), ← hy]
      clear HV hy
      have hltI : (k : Int) < (n : Int) := by omega
      have hkI : (0 : Int) ≤ (k : Int) := by omega
      obtain ⟨R, hR⟩ : ∃ R, R = rightI n words y := ⟨_, rfl⟩
      have HR := Lib.hid hR
      rw [← hR] at HS
      clear hR
      go_upto_region 6 with fail
      clear c0 c1 c2 c3
      obtain ⟨g, hg⟩ : ∃ g, g = wr.heap.size := ⟨_, rfl⟩
      obtain ⟨U, hU⟩ : ∃ U, U = World.alloc wr (.cells #[.int .i64 y.o, .int .i64 y.a, .int .i64 y.b, .int .i64 y.c] 33) := ⟨_, rfl⟩
      have C : Hid (U.heap[g]? = some (.cells #[.int .i64 y.o, .int .i64 y.a, .int .i64 y.b, .int .i64 y.c] 33 (0, 0))) := by rw [hU, hg]; exact Go.heap_alloc_new wr _
      replace HB : Hid (Below w.heap.size w U) := ext_trans HB.out (by rw [hU]; exact ext_alloc wr _)
      rw [← hU, ← hg]
      clear hU hg
      have HF := Lib.hid (hf.out.ext HB.out)
      obtain ⟨x0, x1, x2, x3⟩ := full4i C.out
      go_wp2_with fail
      clear x0 x1 x2 x3
      refine (right_c _ HF y.o y.a y.b y.c n words).mono ?_
      rw [show rightV y.o y.a y.b y.c n words = R from HR.out.symm]
      rintro e v ⟨rfl, hb⟩
      replace HB := Lib.hid (ext_trans HB.out hb)
      clear hb
      by_cases hr : R = true
      · have HV : Hid (checkV l words = firstI n words (l.drop (k + 1)) (k + 1)) := by show _ = _; rw [HS.out, if_pos hr]
        subst hr
        clear HS
        go_wp2_with fail
        exact ⟨⟨k + 1, by omega, by go_num, HV.out, HB.out⟩, by simp [intOf]; omega⟩
      · have HV : Hid (checkV l words = ((k : Int), 3)) := by show _ = _; rw [HS.out, if_neg hr]
        obtain rfl : R = false := by cases R <;> simp_all
        clear HS hr
        go_wp2_with fail
        go_ret2
        exact ⟨by rw [HV.out]; rfl, HB.out⟩
    · obtain rfl : k = n := by omega
      have HE : Hid (checkV l words = (-1, 0)) := by
        show _ = _
        rw [HV.out, List.drop_of_length_le (by rw [HL.out]; exact Nat.le_refl _)]
        rfl
      go_wp2_with fail
      go_ret2
      exact ⟨by rw [HE.out]; rfl, HB.out⟩


set_option maxRecDepth 100000 in
set_option maxHeartbeats 2000000 in
theorem rcheck_c (w : World) (A : Option Addr) (n c : Nat) (l : List Ins) (h : Hid (RdS w A n c l)) (words : Int) : Calls Tryd.prog 12 #[.slice A n c, .int .i64 words] w (PairI w (checkV l words)) := by
  have HL := Lib.hid h.out.len
  have hle := h.out.le
  have hmx := h.out.max
  by_cases h1 : words < 1
  · have HV : Hid (checkV l words = (-1, 2)) := by show _ = _; unfold checkV; rw [if_pos (.inl h1)]
    rw [HV.out]
    go_enter Tryd.func12, Tryd.ntmps12
    go_wp2_with fail
    go_ret2
    exact ⟨rfl, Below.refl _ _⟩
  by_cases h2 : 256 < words
  · have HV : Hid (checkV l words = (-1, 2)) := by show _ = _; unfold checkV; rw [if_pos (.inr (.inl h2))]
    rw [HV.out]
    go_enter Tryd.func12, Tryd.ntmps12
    go_wp2_with fail
    go_ret2
    exact ⟨rfl, Below.refl _ _⟩
  by_cases h3 : n = 0
  · have HV : Hid (checkV l words = (-1, 2)) := by show _ = _; unfold checkV; rw [if_pos (.inr (.inr (.inl (by rw [HL.out]; omega))))]
    rw [HV.out]
    subst h3
    go_enter Tryd.func12, Tryd.ntmps12
    go_wp2_with fail
    go_ret2
    exact ⟨rfl, Below.refl _ _⟩
  by_cases h4 : 2048 < n
  · have HV : Hid (checkV l words = (-1, 2)) := by show _ = _; unfold checkV; rw [if_pos (.inr (.inr (.inr (by rw [HL.out]; exact h4))))]
    rw [HV.out]
    have h5 : (2048 : Int) < (n : Int) := by omega
    have h6 : ¬ (n : Int) < 1 := by omega
    have h7 : ((n : Int) == 0) = false := by rw [beq_eq_false_iff_ne]; omega
    clear h3
    go_enter Tryd.func12, Tryd.ntmps12
    go_wp2_with fail
    go_ret2
    exact ⟨rfl, Below.refl _ _⟩
  have HV : Hid (checkV l words = firstI n words (l.drop 0) 0) := by show _ = _; unfold checkV; rw [if_neg (by rw [HL.out]; omega), HL.out]; rfl
  have h5 : ¬ (2048 : Int) < (n : Int) := by omega
  have h6 : ¬ (n : Int) < 1 := by omega
  have h7 : ((n : Int) == 0) = false := by rw [beq_eq_false_iff_ne]; omega
  clear h3
  go_enter Tryd.func12, Tryd.ntmps12
  go_wp2_with fail
  clear h7
  go_loopw [6] (fun iv wr => ∃ k : Nat, k ≤ n ∧ iv = .int .i64 k ∧ Hid (checkV l words = firstI n words (l.drop k) k) ∧ Hid (Below w.heap.size w wr)) (fun iv _ => n - (intOf iv).toNat)
  case atStart => exact ⟨0, Nat.zero_le _, rfl, HV.out, by first | exact Below.refl _ _ | exact ext_alloc _ _⟩
  case round =>
    clear HV
    obtain ⟨k, hk, rfl, HV, HB⟩ := hrel
    by_cases hlt : k < n
    · obtain ⟨b, o, rfl, hbo, c0, c1, c2, c3⟩ := (h.out.ext HB.out).at hlt
      obtain ⟨y, hy⟩ : ∃ y, y = l.getD k noIns := ⟨_, rfl⟩
      rw [← hy] at c0 c1 c2 c3
      have HS : Hid (checkV l words = if rightI n words y = true then firstI n words (l.drop (k + 1)) (k + 1) else ((k : Int), 3)) := by
        show _ = _
        rw [HV.out, firstI_step (by rw [HL.out]; exact hlt), ← hy]
      clear HV hy
      have hltI : (k : Int) < (n : Int) := by omega
      have hkI : (0 : Int) ≤ (k : Int) := by omega
      obtain ⟨R, hR⟩ : ∃ R, R = rightI n words y := ⟨_, rfl⟩
      have HR := Lib.hid hR
      rw [← hR] at HS
      clear hR
      go_wp2_with fail
      clear c0 c1 c2 c3
      refine (rright_c _ y.o y.a y.b y.c n words).mono ?_
      rw [show rightV y.o y.a y.b y.c n words = R from HR.out.symm]
      rintro e v ⟨rfl, hb⟩
      replace HB := Lib.hid (ext_trans HB.out hb)
      clear hb
      by_cases hr : R = true
      · have HV : Hid (checkV l words = firstI n words (l.drop (k + 1)) (k + 1)) := by show _ = _; rw [HS.out, if_pos hr]
        subst hr
        clear HS
        go_wp2_with fail
        exact ⟨⟨k + 1, by omega, by go_num, HV.out, HB.out⟩, by simp [intOf]; omega⟩
      · have HV : Hid (checkV l words = ((k : Int), 3)) := by show _ = _; rw [HS.out, if_neg hr]
        obtain rfl : R = false := by cases R <;> simp_all
        clear HS hr
        go_wp2_with fail
        go_ret2
        exact ⟨by rw [HV.out]; rfl, HB.out⟩
    · obtain rfl : k = n := by omega
      have HE : Hid (checkV l words = (-1, 0)) := by
        show _ = _
        rw [HV.out, List.drop_of_length_le (by rw [HL.out]; exact Nat.le_refl _)]
        rfl
      go_wp2_with fail
      go_ret2
      exact ⟨by rw [HE.out]; rfl, HB.out⟩

#print axioms of_c
#print axioms check_c
#print axioms rcheck_c
end Go.Proofs.YtibmkihehaedjaaDoor
