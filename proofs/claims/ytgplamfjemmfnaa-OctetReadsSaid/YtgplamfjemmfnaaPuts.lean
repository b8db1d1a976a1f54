/-
  What octet's Put calls and the document's own writings come to.
-/
import Derived.Test.YtgplamfjemmfnaaNum
import Derived.Test.YtgplamfjemmfnaaRows
import Derived.Lib.Hide
import Derived.Outline
import Derived.WalkLawsBesides
import Derived.WalkSpells
namespace Go.Proofs.Ytgplamfjemmfnaa
open Go.RowKit

theorem infoU8 : (Try.prog.info? 5).map (fun i => (i.zero, i.size, i.bytes)) = some (some (.int .u8 0), 1, 1) := by kernel_rfl
theorem sizeU8 : (Try.prog.info? 5).map (·.size) = some 1 := by kernel_rfl

/-- the call hands back a new slice of these bytes, and leaves all that was there -/
def Makes (w : World) (bs : List UInt8) (e : Ending) (w' : World) : Prop :=
  ∃ A n c, e = .returned (.slice A n c) ∧ Own w' 5 w.heap.size A n c bs ∧ Below w.heap.size w w'

/-- what holds of PutNum's loop: 'done' is told, k is left to be told -/
structure PutInv (w : World) (bs : List UInt8) (m k : Nat) (done : List UInt8) (A : Option Addr) (n c : Nat) (wr : World) : Prop where
  own : Own wr 5 w.heap.size A n c (bs ++ done)
  below : Below w.heap.size w wr
  rest : done ++ num k = num m
  small : k < 18446744073709551616
  whole : m < 18446744073709551616
  short : bs.length ≤ 1000000000000
theorem PutInv.len {w : World} {bs : List UInt8} {m k : Nat} {done : List UInt8} {A : Option Addr} {n c : Nat} {wr : World} (h : PutInv w bs m k done A n c wr) : n ≤ 1000000000010 := by
  have h1 := h.own.len
  have h2 := congrArg List.length h.rest
  have h3 := num_ten h.whole
  have h4 := h.short
  rw [List.length_append] at h1 h2
  omega

theorem PutInv.step {w : World} {bs : List UInt8} {m k : Nat} {done : List UInt8} {A A2 : Option Addr} {n c c2 : Nat} {wr w3 : World} (h : PutInv w bs m k done A n c wr) (hk : 128 ≤ k)
    (ho : Own w3 5 w.heap.size A2 (n + 1) c2 (bs ++ done ++ [UInt8.ofNat (128 + k % 128)])) (hb : Below w.heap.size wr w3) : PutInv w bs m (k / 128) (done ++ [UInt8.ofNat (128 + k % 128)]) A2 (n + 1) c2 w3 :=
  ⟨by rw [← List.append_assoc]; exact ho, h.below.trans hb, by
    have h1 := h.rest
    rw [num_big (by omega)] at h1
    rw [List.append_assoc]
    exact h1, by have := h.small; omega, h.whole, h.short⟩
theorem PutInv.last {w : World} {bs : List UInt8} {m k : Nat} {done : List UInt8} {A A2 : Option Addr} {n c c2 : Nat} {wr w3 : World} (h : PutInv w bs m k done A n c wr) (hk : ¬ 128 ≤ k)
    (ho : Own w3 5 w.heap.size A2 (n + 1) c2 (bs ++ done ++ [UInt8.ofNat k])) : Own w3 5 w.heap.size A2 (n + 1) c2 (bs ++ num m) := by
  have h1 := h.rest
  rw [num_small (by omega)] at h1
  rw [← h1, ← List.append_assoc]
  exact ho

set_option maxRecDepth 100000 in
set_option maxHeartbeats 400000 in
theorem putNum_c (w : World) (A : Option Addr) (n c : Nat) (bs : List UInt8) (h : Rd w A n c bs) (hn : n ≤ 1000000000000) (m : Nat) (hm : Hid (m < 18446744073709551616)) :
    Calls Try.prog 12 #[.slice A n c, .int .u64 m] w (Makes w (bs ++ num m)) := by
  obtain ⟨i0, hi, hz0, hz1, hz2⟩ := info_parts infoU8
  have hle := h.le
  have hmax := h.max
  have H := Lib.hid h
  clear h
  go_enter Try.func12, Try.ntmps12
  go_wp2_with (first
    | (at_make; refine wpList_make_any _ rfl (.tmp 7) (.tmp 10) 22 rfl w.heap.size 5 i0 (.int .u8 0) Try.underlying22 hi hz0 hz1 rfl 1 hz2 .i64 .i64 _ _ n (n + 10) rfl rfl rfl (by omega) (by omega) (by omega) (by omega) (Nat.le_refl _) ?_; intro w1 hown1 hgrow1; have hb1 := below_grown (Below.refl _ _) (Nat.le_refl _) hgrow1 (fun k hk => by cases hk); clear hgrow1)
    | (refine wpList_copy_all (o := ⟨some 14, _, _, _, _, _⟩) rfl (.tmp 12) (.tmp 13) 22 22 rfl 5 Try.underlying22 sizeU8 w.heap.size w.heap.size n (n + 10) (by rfl) A c (by rfl) _ hown1 bs (H.out.ext hb1) ?_; intro w2 hown2 hgrow2; go_simp))
  have hb2 := below_grown hb1 hb1.size hgrow2 (fun k hk => by cases hk; exact Nat.le_refl _)
  have h0 : Own w2 5 w.heap.size (some ⟨w.heap.size, 0, none⟩) n (n + 10) bs := ⟨H.out.len, by omega, hown2⟩
  clear hb1 hown1 hgrow2 hown2
  go_loopw [1, 5] (fun nv vv wr => ∃ (k : Nat) (done : List UInt8) (A' : Option Addr) (n' c' : Nat), nv = .int .u64 k ∧ vv = .slice A' n' c' ∧ PutInv w bs m k done A' n' c' wr) (fun nv _ _ => (intOf nv).toNat)
  case atStart => exact ⟨m, [], _, _, _, rfl, rfl, ⟨by simpa using h0, hb2, by simp, hm.out, hm.out, by have := H.out.len; omega⟩⟩
  case round =>
    obtain ⟨k, done, A', n', c', rfl, rfl, hinv⟩ := hrel
    have hB := hinv.below.size
    have hl := hinv.len
    by_cases hk : 128 ≤ k
    · go_wp2_with (refine wpList_push (o := ⟨some 24, _, _, _, _, _⟩) rfl (.tmp 19) (.tmp 23) 22 rfl 5 Try.underlying22 infoU8 w.heap.size A' n' c' _ (by rfl) hinv.own _ _ (or_more k) (by rfl) (by omega) hB ?_; intro A2 c2 w3 hown3 hb3; go_simp)
      go_roundw
      case rel => exact ⟨k / 128, _, A2, n' + 1, c2, by go_num, rfl, hinv.step hk hown3 hb3⟩
      case measure => simp [intOf]; omega
    · go_wp2_with (refine wpList_push (o := ⟨some 29, _, _, _, _, _⟩) rfl (.tmp 25) (.tmp 28) 22 rfl 5 Try.underlying22 infoU8 w.heap.size A' n' c' _ (by rfl) hinv.own _ _ (small_byte k (by omega)) (by rfl) (by omega) hB ?_; intro A2 c2 w3 hown3 hb3; go_simp)
      go_ret
      exact ⟨A2, n' + 1, c2, rfl, hinv.last hk hown3, hinv.below.trans hb3⟩
#print axioms putNum_c
end Go.Proofs.Ytgplamfjemmfnaa
