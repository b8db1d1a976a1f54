/-
  code: an instruction's bytes, instructions' bytes: the program's contracts.
-/
import Derived.Test.YtibmkihehaedjaaDoorGCheck
import Derived.Test.YtibmkihehaedjaaDoorGPure2
import Derived.Test.YtibmkihehaedjaaDoorPuts2
import Derived.Test.YtibmkihehaedjaaDoorRefs
namespace Go.Proofs.YtibmkihehaedjaaDoor
open Go.RowKit

/-- the bytes of the first k of three numbers -/
def putsF (t : Nat → Int) : Nat → List UInt8
  | 0 => []
  | k + 1 => putsF t k ++ num (fold (t k))
/-- an instruction's bytes -/
def insB (i : Ins) : List UInt8 := num i.o.toNat ++ putsF (three i.a i.b i.c) (hasB i.o.toNat).length
/-- instructions' bytes, those of the first k -/
def encF (l : List Ins) (k : Nat) : List UInt8 := num l.length ++ (l.take k).flatMap insB
theorem three_in {i : Ins} (h : i.ok) (k : Nat) : In64 (three i.a i.b i.c k) := by
  unfold three
  split
  · exact h.2.1
  · split
    · exact h.2.2.1
    · exact h.2.2.2
theorem puts_len {t : Nat → Int} (h : ∀ k, In64 (t k)) : ∀ k, (putsF t k).length ≤ 10 * k
  | 0 => Nat.le_refl _
  | k + 1 => by
    have h1 := puts_len h k
    have h2 := num_ten (fold_lt (h k).1 (h k).2)
    unfold putsF
    rw [List.length_append]
    omega
theorem insB_len {i : Ins} (h : i.ok) (ho : 0 ≤ i.o ∧ i.o < 22) : (insB i).length ≤ 40 := by
  unfold insB
  have h1 := puts_len (three_in h) (hasB i.o.toNat).length
  have h2 := (hasB_len i.o.toNat (by omega)).2
  have h3 := num_ten (m := i.o.toNat) (by omega)
  rw [List.length_append]
  omega
theorem flat_len {l : List Ins} (h : ∀ x ∈ l, (insB x).length ≤ 40) : (l.flatMap insB).length ≤ 40 * l.length := by
  induction l with
  | nil => simp
  | cons x l ih =>
    have h1 := h x (List.mem_cons_self ..)
    have h2 := ih (fun y hy => h y (List.mem_cons_of_mem _ hy))
    rw [List.flatMap_cons, List.length_append, List.length_cons]
    omega
theorem encF_len {l : List Ins} (h : ∀ x ∈ l, (insB x).length ≤ 40) (hl : l.length ≤ 1000000) (k : Nat) : (encF l k).length ≤ 50000000 := by
  unfold encF
  have h1 := flat_len (l := l.take k) (fun x hx => h x (List.mem_of_mem_take hx))
  have h2 := num_ten (m := l.length) (by omega)
  have h3 : (l.take k).length ≤ l.length := by rw [List.length_take]; omega
  rw [List.length_append]
  omega
theorem encF_step {l : List Ins} {k : Nat} (hk : k < l.length) : encF l (k + 1) = encF l k ++ insB (l.getD k noIns) := by
  unfold encF
  rw [take_snocI hk, List.flatMap_append, ← List.append_assoc]
  simp

theorem Own.down {w : World} {E : TypeId} {B B' : Nat} {A : Option Addr} {n c : Nat} {bs : List UInt8} (h : Own w E B A n c bs) (hB : B' ≤ B) : Own w E B' A n c bs :=
  ⟨h.len, h.max, ⟨h.row.1, h.row.2.imp id (fun ⟨g, cap, cur, hv, hb, r⟩ => ⟨g, cap, cur, hv, Nat.le_trans hB hb, r⟩)⟩⟩

set_option maxRecDepth 100000 in
set_option maxHeartbeats 2000000 in
theorem bytes_c (w : World) (hf : Hid (Forms w)) (i : Ins) (hi : Hid i.ok) (ho : 0 ≤ i.o ∧ i.o < 22) : Calls Tryd.prog 41 #[.agg #[.int .i64 i.o, .int .i64 i.a, .int .i64 i.b, .int .i64 i.c]] w (Makes w (insB i)) := by
  obtain ⟨o, a, b, c⟩ := i
  dsimp only at ho ⊢
  obtain ⟨m, rfl⟩ : ∃ m : Nat, o = (m : Int) := ⟨o.toNat, by omega⟩
  have hm : m < 22 := by omega
  have hmI : (m : Int) < 22 := by omega
  have hm0 : (0 : Int) ≤ (m : Int) := by omega
  obtain ⟨t, ht⟩ : ∃ t, t = three a b c := ⟨_, rfl⟩
  have HIN : Hid (∀ k, In64 (t k)) := by
    intro k
    rw [ht]
    exact three_in (i := ⟨m, a, b, c⟩) hi.out k
  have HT := Lib.hid ht
  obtain ⟨n, hn⟩ : ∃ n, n = (hasB m).length := ⟨_, rfl⟩
  have hn3 : n ≤ 3 := by rw [hn]; exact (hasB_len m hm).2
  have HB : Hid (insB ⟨m, a, b, c⟩ = num m ++ putsF t n) := by
    show num (m : Int).toNat ++ putsF (three a b c) (hasB (m : Int).toNat).length = _
    rw [Int.toNat_natCast, ← ht, ← hn]
  rw [HB.out]
  obtain ⟨S, hS⟩ : ∃ S : ByteArray, S = ⟨(hasB m).toArray⟩ := ⟨_, rfl⟩
  have HSZ : S.size = n := by rw [hS, hn]; rfl
  have CH : Hid (∀ w, Forms w → w.cell? ⟨0, m * 2 + 1, none⟩ = some (.string S)) := fun w h => by rw [hS]; exact h.has m hm
  have w1 : IntKind.u64.wrap (m : Int) = (m : Int) := IntWalk.u64_in _ (by omega)
  have nI : (n : Int) ≤ 3 := by omega
  have n0 : (0 : Int) ≤ (n : Int) := by omega
  clear ht hn hS HB ho hi
  go_enter Tryd.func41, Tryd.ntmps41
  go_wp2_with fail
  refine (putNum_i _ none 0 0 [] (Rd.nil _) (by omega) m (by omega) _ rfl).mono ?_
  rintro e w1 ⟨A1, n1, c1, rfl, hO, hb⟩
  obtain ⟨g, hg⟩ : ∃ g, g = w.heap.size := ⟨_, rfl⟩
  have B4 : Hid (w1.heap[g]? = some (.cells #[.int .i64 m, .int .i64 a, .int .i64 b, .int .i64 c] 33 (0, 0))) := by rw [hg]; exact below_keep hb (by simp) (Go.heap_alloc_new w _)
  have B2 : Hid (Below w.heap.size w w1) := ext_trans (ext_alloc w _) hb
  have R1 : Hid (Own w1 5 w.heap.size A1 n1 c1 (num m)) := Own.down hO (by simp)
  rw [← hg]
  clear hb hg hO
  obtain ⟨b0, b1, b2, b3⟩ := full4i B4.out
  go_wp2_with fail
  clear b0 b1 b2 b3
  refine (numbers_c _ _ _ _ _).mono ?_
  rintro e w2 ⟨rfl, hb⟩
  replace B4 := Lib.hid (keepG hb B4.out)
  replace R1 := Lib.hid (R1.out.ext hb)
  replace B2 := Lib.hid (ext_trans B2.out hb)
  clear hb
  go_upto_region 3 with fail
  obtain ⟨q, hq⟩ : ∃ q, q = w2.heap.size := ⟨_, rfl⟩
  obtain ⟨U, hU⟩ : ∃ U, U = World.alloc w2 (.cells #[.int .i64 a, .int .i64 b, .int .i64 c] 70) := ⟨_, rfl⟩
  have B3 : Hid (U.heap[q]? = some (.cells #[.int .i64 a, .int .i64 b, .int .i64 c] 70 (0, 0))) := by rw [hU, hq]; exact Go.heap_alloc_new w2 _
  have BU : Hid (Below w2.heap.size w2 U) := by rw [hU]; exact ext_alloc w2 _
  replace B4 := Lib.hid (keepG BU.out B4.out)
  replace R1 := Lib.hid (R1.out.ext BU.out)
  replace B2 := Lib.hid (ext_trans B2.out BU.out)
  rw [← hU, ← hq]
  clear hU hq BU
  have ch := CH.out U (hf.out.ext B2.out)
  obtain ⟨b0, b1, b2, b3⟩ := full4i B4.out
  clear CH
  go_wp2_with fail
  clear b0 b1 b2 b3 ch B4
  go_loopw [3, 21] (fun bv iv wr => ∃ (k : Nat) (A : Option Addr) (nn cc : Nat), k ≤ n ∧ iv = .int .i64 k ∧ bv = .slice A nn cc ∧ Hid (Own wr 5 w.heap.size A nn cc (num m ++ putsF t k)) ∧ Hid (Below w.heap.size w wr) ∧ Hid (Below U.heap.size U wr)) (fun _ iv _ => n - (intOf iv).toNat)
  case atStart => exact ⟨0, A1, n1, c1, Nat.zero_le _, rfl, rfl, by show Own _ _ _ _ _ _ _; rw [show putsF t 0 = [] from rfl, List.append_nil]; exact R1.out, B2.out, Below.refl _ _⟩
  case round =>
    clear R1 B2
    obtain ⟨k, A, nn, cc, hk, rfl, rfl, HO, HB, HBU⟩ := hrel
    by_cases hlt : k < n
    · have k3 : k < 3 := by omega
      have hltI : (k : Int) < (n : Int) := by omega
      have hkI : (0 : Int) ≤ (k : Int) := by omega
      have ct := three_at a b c k3 (below_keep HBU.out (Array.getElem?_eq_some_iff.1 B3.out).1 B3.out)
      rw [← HT.out] at ct
      have hin := HIN.out k
      obtain ⟨x, hx⟩ : ∃ x, x = t k := ⟨_, rfl⟩
      rw [← hx] at ct hin
      have HS : Hid (putsF t (k + 1) = putsF t k ++ num (fold x)) := by show _ = _; rw [hx]; rfl
      have hnn : nn ≤ 1000000000000 := by
        have h1 := HO.out.len
        rw [List.length_append] at h1
        have h2 := puts_len HIN.out k
        have h3 := num_ten (m := m) (by omega)
        omega
      clear hx
      go_wp2_with fail
      refine (putInt_c _ A nn cc _ HO.out.rd hnn x hin.1 hin.2).mono ?_
      rintro e v ⟨A', n', c', rfl, ho', hb'⟩
      have HO2 : Hid (Own v 5 w.heap.size A' n' c' (num m ++ putsF t k ++ num (fold x))) := Own.down ho' HB.out.size
      replace HB := Lib.hid (ext_trans HB.out hb')
      replace HBU := Lib.hid (ext_trans HBU.out hb')
      clear ho' hb' HO
      go_wp2_with fail
      exact ⟨⟨k + 1, A', n', c', by omega, by go_num, rfl, by show Own _ _ _ _ _ _ _; rw [HS.out, ← List.append_assoc]; exact HO2.out, HB.out, HBU.out⟩, by simp [intOf]; omega⟩
    · obtain rfl : k = n := by omega
      go_wp2_with fail
      go_ret
      exact ⟨_, _, _, rfl, HO.out, HB.out⟩

def encV (l : List Ins) : List UInt8 × Int := if (checkV l 256).2 = 0 then (encF l l.length, 0) else ([], (checkV l 256).2)
theorem first_words {size words : Int} : ∀ (l : List Ins) (k : Nat), (firstI size words l k).2 = 0 → ∀ x ∈ l, rightI size words x = true
  | [], _, _, x, hx => by simp at hx
  | y :: l, k, h, x, hx => by
    unfold firstI at h
    split at h
    · rename_i hy
      rcases List.mem_cons.1 hx with rfl | h1
      · exact hy
      · exact first_words l (k + 1) h x h1
    · exact absurd h (show ¬ (3 : Int) = 0 by decide)
theorem check_ok {l : List Ins} {words : Int} (h : (checkV l words).2 = 0) : (1 ≤ l.length ∧ l.length ≤ 2048) ∧ ∀ x ∈ l, rightI l.length words x = true := by
  unfold checkV at h
  split at h
  · exact absurd h (show ¬ (2 : Int) = 0 by decide)
  · rename_i hc
    exact ⟨by omega, first_words l 0 h⟩
/-- a call that answers new bytes, or none, and a number -/
def Enc (w : World) (p : List UInt8 × Int) (e : Ending) (w' : World) : Prop := ∃ A n c, e = .returned (.tuple #[.slice A n c, .int .i64 p.2]) ∧ Rd w' A n c p.1 ∧ Below w.heap.size w w'

set_option maxRecDepth 100000 in
set_option maxHeartbeats 2000000 in
theorem encode_c (w : World) (hf : Hid (Forms w)) (A : Option Addr) (n c : Nat) (l : List Ins) (h : Hid (RdS w A n c l)) (hl : Hid (∀ x ∈ l, x.ok)) : Calls Tryd.prog 24 #[.slice A n c] w (Enc w (encV l)) := by
  have HL := Lib.hid h.out.len
  have hle := h.out.le
  have hmx := h.out.max
  obtain ⟨p, hp⟩ : ∃ p, p = checkV l 256 := ⟨_, rfl⟩
  have HP := Lib.hid hp
  by_cases he : p.2 = 0
  · have HE : Hid (encV l = (encF l n, 0)) := by show _ = _; unfold encV; rw [← hp, if_pos he, HL.out]
    have hck := check_ok (hp ▸ he)
    have HR := Lib.hid hck.2
    have n1 : 1 ≤ n := by have := hck.1; rw [HL.out] at this; exact this.1
    have n2 : n ≤ 2048 := by have := hck.1; rw [HL.out] at this; exact this.2
    have HS40 : Hid (∀ x ∈ l, (insB x).length ≤ 40) := fun x hx => insB_len (hl.out x hx) (right_parts (hck.2 x hx)).1
    rw [HE.out]
    obtain ⟨p1, p2⟩ := p
    dsimp only at he
    subst he
    have wn : IntKind.u64.wrap (n : Int) = (n : Int) := IntWalk.u64_in _ (by omega)
    clear hp hck
    go_enter Tryd.func24, Tryd.ntmps24
    go_wp2_with fail
    refine (check_c _ hf A n c l h 256).mono ?_
    rw [← HP.out]
    rintro e w1 ⟨rfl, hb⟩
    have HB := Lib.hid hb
    clear hb
    go_wp2_with fail
    refine (putNum_i _ none 0 0 [] (Rd.nil _) (by omega) n (by omega) _ rfl).mono ?_
    rintro e w2 ⟨A1, n1', c1, rfl, hO, hb⟩
    have O1 : Hid (Own w2 5 w.heap.size A1 n1' c1 (encF l 0)) := by
      have := Own.down hO HB.out.size
      rw [List.nil_append] at this
      show Own _ _ _ _ _ _ _
      unfold encF
      rw [HL.out, List.take_zero, List.flatMap_nil, List.append_nil]
      exact this
    replace HB := Lib.hid (ext_trans HB.out hb)
    clear hO hb
    go_wp2_with fail
    go_loopw [6, 23] (fun bv iv wr => ∃ (k : Nat) (B : Option Addr) (nn cc : Nat), k ≤ n ∧ iv = .int .i64 k ∧ bv = .slice B nn cc ∧ Hid (Own wr 5 w.heap.size B nn cc (encF l k)) ∧ Hid (Below w.heap.size w wr)) (fun _ iv _ => n - (intOf iv).toNat)
    case atStart => exact ⟨0, A1, n1', c1, Nat.zero_le _, rfl, rfl, O1.out, HB.out⟩
    case round =>
      clear O1 HB
      obtain ⟨k, B, nn, cc, hk, rfl, rfl, HO, HB⟩ := hrel
      by_cases hlt : k < n
      · have hlen : k < l.length := by rw [HL.out]; exact hlt
        obtain ⟨b, o, rfl, hbo, c0, c1, c2, c3⟩ := (h.out.ext HB.out).at hlt
        obtain ⟨y, hy⟩ : ∃ y, y = l.getD k noIns := ⟨_, rfl⟩
        rw [← hy] at c0 c1 c2 c3
        have hym : y ∈ l := by rw [hy, getD_at hlen]; exact List.getElem_mem _
        have HS : Hid (encF l (k + 1) = encF l k ++ insB y) := by show _ = _; rw [encF_step hlen, ← hy]
        have hyo := (right_parts (HR.out y hym)).1
        have HYK : Hid y.ok := hl.out y hym
        have l40 := HS40.out y hym
        have hnn : nn ≤ 50000000 := by rw [← HO.out.len]; exact encF_len HS40.out (by rw [HL.out]; omega) k
        have hltI : (k : Int) < (n : Int) := by omega
        have hkI : (0 : Int) ≤ (k : Int) := by omega
        clear hy hym hlen
        go_upto_region 8 with fail
        clear c0 c1 c2 c3
        obtain ⟨g, hg⟩ : ∃ g, g = wr.heap.size := ⟨_, rfl⟩
        obtain ⟨U, hU⟩ : ∃ U, U = World.alloc wr (.cells #[.int .i64 y.o, .int .i64 y.a, .int .i64 y.b, .int .i64 y.c] 33) := ⟨_, rfl⟩
        have C : Hid (U.heap[g]? = some (.cells #[.int .i64 y.o, .int .i64 y.a, .int .i64 y.b, .int .i64 y.c] 33 (0, 0))) := by rw [hU, hg]; exact Go.heap_alloc_new wr _
        have BU : Hid (Below wr.heap.size wr U) := by rw [hU]; exact ext_alloc wr _
        replace HO := Lib.hid (HO.out.ext BU.out)
        replace HB := Lib.hid (ext_trans HB.out BU.out)
        rw [← hU, ← hg]
        clear hU hg BU
        have HF := Lib.hid (hf.out.ext HB.out)
        obtain ⟨x0, x1, x2, x3⟩ := full4i C.out
        go_wp2_with fail
        clear x0 x1 x2 x3 C
        refine (bytes_c _ HF y HYK hyo).mono ?_
        rintro e v ⟨A2, m2, d2, rfl, hO2, hb⟩
        replace HO := Lib.hid (HO.out.ext hb)
        replace HB := Lib.hid (ext_trans HB.out hb)
        have RY := Lib.hid hO2.rd
        have hm2 : m2 ≤ 40 := by rw [← hO2.len]; exact l40
        clear hO2 hb l40
        go_wp2_with (refine wpList_push_all (o := ⟨some 30, _, _, _, _, _⟩) rfl (.tmp 27) (.tmp 29) 48 48 rfl 5 Tryd.underlying48 infoU8 w.heap.size _ _ _ _ (by rfl) HO.out _ m2 (insB y) (by rfl) (RY.out.src Tryd.underlying48) (by omega) HB.out.size ?_; intro A3 c3 w3 ho3 hb3; have HO3 := Lib.hid ho3; have HB3 := Lib.hid hb3; clear ho3 hb3; go_simp)
        exact ⟨⟨k + 1, A3, nn + m2, c3, by omega, by go_num, rfl, by show Own _ _ _ _ _ _ _; rw [HS.out]; exact HO3.out, HB.out.trans HB3.out⟩, by simp [intOf]; omega⟩
      · obtain rfl : k = n := by omega
        go_wp2_with fail
        go_ret2
        exact ⟨_, _, _, rfl, HO.out.rd, HB.out⟩
  · have HE : Hid (encV l = ([], p.2)) := by show _ = _; unfold encV; rw [← hp, if_neg he]
    rw [HE.out]
    obtain ⟨p1, p2⟩ := p
    dsimp only at he ⊢
    have hne : (p2 != 0) = true := by rw [bne_iff_ne]; exact he
    clear hp he
    go_enter Tryd.func24, Tryd.ntmps24
    go_wp2_with fail
    refine (check_c _ hf A n c l h 256).mono ?_
    rw [← HP.out]
    rintro e w1 ⟨rfl, hb⟩
    have HB := Lib.hid hb
    clear hb
    go_wp2_with fail
    go_ret2
    exact ⟨_, _, _, rfl, Rd.nil _, HB.out⟩
#print axioms bytes_c
#print axioms encode_c
end Go.Proofs.YtibmkihehaedjaaDoor
