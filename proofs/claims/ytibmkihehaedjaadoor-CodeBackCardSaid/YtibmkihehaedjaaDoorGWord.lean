/-
  code: an operation's name; the chapter's examples: contracts.
-/
import Derived.Test.YtibmkihehaedjaaDoorGNext
import Derived.Test.YtibmkihehaedjaaDoorGRef
namespace Go.Proofs.YtibmkihehaedjaaDoor
open Go.RowKit

theorem keepG {w w' : World} {b : Nat} {o : Obj} (hb : Below w.heap.size w w') (h : w.heap[b]? = some o) : w'.heap[b]? = some o := (hb.block b (Array.getElem?_eq_some_iff.1 h).1).trans h
def nameV (o : Int) : ByteArray := if 0 ≤ o ∧ o < 22 then ⟨(nameB o.toNat).toArray⟩ else ⟨#[]⟩
theorem word_c (w : World) (hf : Hid (Forms w)) (o : Int) : Calls Tryd.prog 22 #[.int .i64 o] w (Gives (.string (nameV o)) w) := by
  by_cases ho : 0 ≤ o ∧ o < 22
  · have HV : Hid (nameV o = ⟨(nameB o.toNat).toArray⟩) := by show _ = _; unfold nameV; rw [if_pos ho]
    rw [HV.out]
    obtain ⟨m, rfl⟩ : ∃ m : Nat, o = (m : Int) := ⟨o.toNat, by omega⟩
    have hm : m < 22 := by omega
    have hmI : (m : Int) < 22 := by omega
    have hm0 : (0 : Int) ≤ (m : Int) := by omega
    rw [Int.toNat_natCast]
    have ch := hf.out.name m hm
    clear HV ho
    obtain ⟨S, hS⟩ : ∃ S : ByteArray, S = ⟨(nameB m).toArray⟩ := ⟨_, rfl⟩
    rw [← hS] at ch ⊢
    clear hS
    go_enter Tryd.func22, Tryd.ntmps22
    go_wp2_with fail
    refine (known_t _ _ hm0 hmI).mono ?_
    rintro e w' ⟨rfl, rfl⟩
    go_wp2_with fail
    go_ret
    exact ⟨rfl, Below.refl _ _⟩
  · have HV : Hid (nameV o = ⟨#[]⟩) := by show _ = _; unfold nameV; rw [if_neg ho]
    rw [HV.out]
    go_enter Tryd.func22, Tryd.ntmps22
    go_wp2_with fail
    refine (known_f _ _ ho).mono ?_
    rintro e w' ⟨rfl, rfl⟩
    go_wp2_with fail
    go_ret
    exact ⟨rfl, Below.refl _ _⟩
def NamesAt (w : World) (e : Ending) (w' : World) : Prop := ∃ b, e = .returned (.slice (some ⟨b, 0, none⟩) 22 22) ∧ (∀ j, j < 22 → w'.cell? ⟨b, j, none⟩ = some (.string ⟨(nameB j).toArray⟩)) ∧ Below w.heap.size w w'
theorem names_c (w : World) : Calls Tryd.prog 39 #[] w (NamesAt w) := by
  go_enter Tryd.func39, Tryd.ntmps39
  go_wp2_with fail
  go_ret
  refine ⟨_, rfl, fun j hj => ?_, ext_alloc w _⟩
  rw [cell_of_row _ w.heap.size j _ _ (0, 0) (Go.heap_alloc_new w _)]
  rcases (by omega : j = 0 ∨ j = 1 ∨ j = 2 ∨ j = 3 ∨ j = 4 ∨ j = 5 ∨ j = 6 ∨ j = 7 ∨ j = 8 ∨ j = 9 ∨ j = 10 ∨ j = 11 ∨ j = 12 ∨ j = 13 ∨ j = 14 ∨ j = 15 ∨ j = 16 ∨ j = 17 ∨ j = 18 ∨ j = 19 ∨ j = 20 ∨ j = 21) with rfl | rfl | rfl | rfl | rfl | rfl | rfl | rfl | rfl | rfl | rfl | rfl | rfl | rfl | rfl | rfl | rfl | rfl | rfl | rfl | rfl | rfl <;> rfl
theorem rword_c (w : World) (o : Int) : Calls Tryd.prog 23 #[.int .i64 o] w (Gives (.string (nameV o)) w) := by
  by_cases h1 : o < 0
  · have HV : Hid (nameV o = ⟨#[]⟩) := by show _ = _; unfold nameV; rw [if_neg (by omega)]
    rw [HV.out]
    go_enter Tryd.func23, Tryd.ntmps23
    go_wp2_with fail
    go_ret
    exact ⟨rfl, Below.refl _ _⟩
  · by_cases h2 : 21 < o
    · have HV : Hid (nameV o = ⟨#[]⟩) := by show _ = _; unfold nameV; rw [if_neg (by omega)]
      rw [HV.out]
      go_enter Tryd.func23, Tryd.ntmps23
      go_wp2_with fail
      go_ret
      exact ⟨rfl, Below.refl _ _⟩
    · have HV : Hid (nameV o = ⟨(nameB o.toNat).toArray⟩) := by show _ = _; unfold nameV; rw [if_pos (by omega)]
      rw [HV.out]
      obtain ⟨m, rfl⟩ : ∃ m : Nat, o = (m : Int) := ⟨o.toNat, by omega⟩
      have hm : m < 22 := by omega
      have hmI : (m : Int) < 22 := by omega
      have hm0 : (0 : Int) ≤ (m : Int) := by omega
      rw [Int.toNat_natCast]
      clear HV
      obtain ⟨S, hS⟩ : ∃ S : ByteArray, S = ⟨(nameB m).toArray⟩ := ⟨_, rfl⟩
      have HS := Lib.hid hS
      rw [← hS]
      clear hS
      go_enter Tryd.func23, Tryd.ntmps23
      go_wp2_with fail
      refine (names_c _).mono ?_
      rintro e w' ⟨b, rfl, hc, hb⟩
      have cm := hc m hm
      rw [← HS.out] at cm
      clear hc
      go_wp2_with fail
      go_ret
      exact ⟨rfl, hb⟩

set_option maxRecDepth 100000 in
set_option maxHeartbeats 1000000 in
theorem codeKnown_c (w : World) (hf : Hid (Forms w)) : Calls Tryd.prog 9 #[] w (Gives (.bool true) w) := by
  go_enter Tryd.func9, Tryd.ntmps9
  go_upto_region 3 with fail
  obtain ⟨g1, hg1⟩ : ∃ g, g = w.heap.size := ⟨_, rfl⟩
  obtain ⟨U1, hU1⟩ : ∃ U, U = World.alloc w (.cells #[.int .i64 3, .int .i64 3, .int .i64 1, .int .i64 2] 33) := ⟨_, rfl⟩
  have C1 : Hid (U1.heap[g1]? = some (.cells #[.int .i64 3, .int .i64 3, .int .i64 1, .int .i64 2] 33 (0, 0))) := by rw [hU1, hg1]; exact Go.heap_alloc_new w _
  have B : Hid (Below w.heap.size w U1) := by rw [hU1]; exact ext_alloc w _
  have hs : w.heap.size + 1 = U1.heap.size := by rw [hU1]; simp
  rw [← hU1, hs, ← hg1]
  clear hU1 hg1 hs
  obtain ⟨g2, hg2⟩ : ∃ g, g = U1.heap.size := ⟨_, rfl⟩
  obtain ⟨U, hU⟩ : ∃ U, U = World.alloc U1 (.cells #[.int .i64 16, .int .i64 5, .int .i64 1, .int .i64 2] 33) := ⟨_, rfl⟩
  have C2 : Hid (U.heap[g2]? = some (.cells #[.int .i64 16, .int .i64 5, .int .i64 1, .int .i64 2] 33 (0, 0))) := by rw [hU, hg2]; exact Go.heap_alloc_new U1 _
  have BU : Hid (Below U1.heap.size U1 U) := by rw [hU]; exact ext_alloc U1 _
  replace C1 := Lib.hid (keepG BU.out C1.out)
  replace B := Lib.hid (ext_trans B.out BU.out)
  rw [← hU, ← hg2]
  clear hU hg2 BU U1
  have HF := Lib.hid (hf.out.ext B.out)
  clear hf
  obtain ⟨x0, x1, x2, x3⟩ := full4i C1.out
  go_wp2_with fail
  clear x0 x1 x2 x3
  refine (reads_c _ HF 3 3 1 2).mono ?_
  rintro e v1 ⟨A1, n1, d1, rfl, hR, hb⟩
  replace C1 := Lib.hid (keepG hb C1.out)
  replace C2 := Lib.hid (keepG hb C2.out)
  replace B := Lib.hid (ext_trans B.out hb)
  replace HF := Lib.hid (HF.out.ext hb)
  have R := Lib.hid hR
  clear hb hR
  go_wp2_with fail
  have hb := ext_alloc v1 (.cells #[.int .i64 1, .int .i64 2] 3)
  refine (ints_c _ A1 n1 d1 _ (Lib.hid (R.out.ext hb)) _ 2 2 [1, 2] (Lib.hid (RdI.lit rfl rfl (by omega)))).mono ?_
  rw [show decide (readsV 3 3 1 2 = [1, 2]) = true from by decide]
  rintro e v2 ⟨rfl, hb2⟩
  replace hb := ext_trans hb hb2
  replace C1 := Lib.hid (keepG hb C1.out)
  replace C2 := Lib.hid (keepG hb C2.out)
  replace B := Lib.hid (ext_trans B.out hb)
  replace HF := Lib.hid (HF.out.ext hb)
  clear hb hb2 R
  obtain ⟨x0, x1, x2, x3⟩ := full4i C1.out
  go_wp2_with fail
  clear x0 x1 x2 x3
  refine (writes_c _ HF 3 3 1 2).mono ?_
  rw [show writesV 3 3 = 3 from rfl]
  rintro e v3 ⟨rfl, hb⟩
  replace C1 := Lib.hid (keepG hb C1.out)
  replace C2 := Lib.hid (keepG hb C2.out)
  replace B := Lib.hid (ext_trans B.out hb)
  replace HF := Lib.hid (HF.out.ext hb)
  clear hb
  obtain ⟨x0, x1, x2, x3⟩ := full4i C2.out
  go_wp2_with fail
  clear x0 x1 x2 x3
  refine (reads_c _ HF 16 5 1 2).mono ?_
  rintro e v4 ⟨A4, n4, d4, rfl, hR, hb⟩
  replace C1 := Lib.hid (keepG hb C1.out)
  replace C2 := Lib.hid (keepG hb C2.out)
  replace B := Lib.hid (ext_trans B.out hb)
  replace HF := Lib.hid (HF.out.ext hb)
  have R := Lib.hid hR
  clear hb hR
  go_wp2_with fail
  have hb := ext_alloc v4 (.cells #[.int .i64 1, .int .i64 2] 3)
  refine (ints_c _ A4 n4 d4 _ (Lib.hid (R.out.ext hb)) _ 2 2 [1, 2] (Lib.hid (RdI.lit rfl rfl (by omega)))).mono ?_
  rw [show decide (readsV 16 5 1 2 = [1, 2]) = true from by decide]
  rintro e v5 ⟨rfl, hb2⟩
  replace hb := ext_trans hb hb2
  replace C1 := Lib.hid (keepG hb C1.out)
  replace C2 := Lib.hid (keepG hb C2.out)
  replace B := Lib.hid (ext_trans B.out hb)
  replace HF := Lib.hid (HF.out.ext hb)
  clear hb hb2 R
  obtain ⟨x0, x1, x2, x3⟩ := full4i C2.out
  go_wp2_with fail
  clear x0 x1 x2 x3
  refine (writes_c _ HF 16 5 1 2).mono ?_
  rw [show writesV 16 5 = -1 from rfl]
  rintro e v6 ⟨rfl, hb⟩
  replace C1 := Lib.hid (keepG hb C1.out)
  replace C2 := Lib.hid (keepG hb C2.out)
  replace B := Lib.hid (ext_trans B.out hb)
  replace HF := Lib.hid (HF.out.ext hb)
  clear hb
  go_wp2_with fail
  refine (word_c _ HF 21).mono ?_
  rw [show nameV 21 = ⟨#[106, 110, 122]⟩ from rfl]
  rintro e v7 ⟨rfl, hb⟩
  replace C1 := Lib.hid (keepG hb C1.out)
  replace C2 := Lib.hid (keepG hb C2.out)
  replace B := Lib.hid (ext_trans B.out hb)
  replace HF := Lib.hid (HF.out.ext hb)
  clear hb
  go_wp2_with fail
  go_ret
  exact ⟨rfl, B.out⟩
#print axioms codeKnown_c
end Go.Proofs.YtibmkihehaedjaaDoor
