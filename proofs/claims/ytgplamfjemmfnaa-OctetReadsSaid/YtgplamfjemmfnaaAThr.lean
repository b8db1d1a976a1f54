/-
  octet: texts that are read; lists that are put and read: plain lists.
-/
import Derived.Test.YtgplamfjemmfnaaReader3
import Derived.Test.YtgplamfjemmfnaaInts0
import Derived.Test.YtgplamfjemmfnaaPuts2
import Derived.Laws.IdiomStrings
namespace Go.Proofs.Ytgplamfjemmfnaa
open Go.RowKit

theorem heap_alloc_newest {w : World} {c : Nat} {x : Obj} (hc : c = w.heap.size) : (w.alloc x).heap[c]? = some x := by subst hc; exact Go.heap_alloc_new w x
theorem str_conv (v : World) (s : ByteArray) (hs : s.size ≤ maxLen) : ∃ c' v', (convert 9 22 (.string s)).run Try.prog v = .ok (.slice (some ⟨v.heap.size, 0, none⟩) s.size c') v' ∧ Rd v' (some ⟨v.heap.size, 0, none⟩) s.size c' s.data.toList ∧ v.heap.size < v'.heap.size ∧ Below v.heap.size v v' := by
  refine ⟨_, _, run_bytes_of_string v 9 22 5 s Try.underlying9 Try.underlying22 Try.underlying5, ⟨by rw [Array.length_toList]; rfl, grownCap_ge v s.size 0 _, ?_, fun _ => ⟨v.heap.size, 0, rfl, ?_, fun j hj => ?_⟩, fun e => by cases e⟩, by simp, ext_trans (ext_drew v) (ext_alloc v.drew _)⟩
  · have := grownCap_le_maxLen v s.size 0 5 hs
    unfold maxLen at this
    omega
  · simp
  · have hj' : j < s.data.size := hj
    rw [Nat.zero_add, cell_of_row _ _ j _ _ _ (heap_alloc_newest (w := v.drew) (by simp)), bytesRow_at _ _ _ hj']
    simp [List.getD]
    rw [Array.getElem?_eq_getElem hj']
    rfl

theorem rbytes_num {t : List UInt8} (ht : t.length ≤ 50) (r : List UInt8) : rbytes (num t.length ++ (t ++ r)) 0 50 = (t, r, 0) := by
  have hd := dec_num (m := t.length) (by omega) (t ++ r)
  unfold rbytes
  rw [hd, if_neg (by simp), if_neg (by simp), if_neg (by simp; omega), if_neg (by simp)]
  simp [List.drop_append]
def preL (g : Nat → List UInt8) : Nat → List UInt8
  | 0 => []
  | n + 1 => preL g n ++ g n
def sufL (g : Nat → List UInt8) : Nat → Nat → List UInt8
  | 0, _ => []
  | k + 1, i => g i ++ sufL g k (i + 1)
theorem pre_suf (g : Nat → List UInt8) : ∀ k i, preL g i ++ sufL g k i = preL g (i + k)
  | 0, i => by simp [sufL]
  | k + 1, i => by
    show preL g i ++ (g i ++ sufL g k (i + 1)) = _
    rw [← List.append_assoc, show preL g i ++ g i = preL g (i + 1) from rfl, pre_suf g k (i + 1), show i + 1 + k = i + (k + 1) by omega]
theorem suf_all (g : Nat → List UInt8) (n : Nat) : preL g n = sufL g n 0 := by
  have := pre_suf g n 0
  rw [Nat.zero_add] at this
  exact this.symm
theorem suf_step (g : Nat → List UInt8) {n i : Nat} (h : i < n) : sufL g (n - i) i = g i ++ sufL g (n - (i + 1)) (i + 1) := by
  rw [show n - i = (n - (i + 1)) + 1 by omega]
  rfl
theorem pre_len {g : Nat → List UInt8} {q : Nat} : ∀ n, (∀ j, j < n → (g j).length ≤ q) → (preL g n).length ≤ q * n
  | 0, _ => by simp [preL]
  | n + 1, h => by
    have h1 := pre_len n (fun j hj => h j (by omega))
    have h2 := h n (by omega)
    show (preL g n ++ g n).length ≤ _
    rw [List.length_append, Nat.mul_succ]
    omega

set_option maxRecDepth 100000 in
theorem text_r (w : World) (b : Nat) (A : Option Addr) (n c : Nat) (bs : List UInt8) (err : Int) (h : Rdr w b A n c bs err) (hn : n ≤ 1000000000000) (most : Int) (m0 : -9223372036854775808 ≤ most) (m1 : most < 9223372036854775808) :
    Calls Try.prog 28 #[.pointer (some ⟨b, 0, none⟩), .int .i64 most] w (Reads1 w b (.string ⟨(rbytes bs err most).1.toArray⟩) (rbytes bs err most).2.1 (rbytes bs err most).2.2) := by
  go_enter Try.func28, Try.ntmps28
  go_wp2_with fail
  refine (bytes_r w b A n c bs err h hn most m0 m1).mono ?_
  rintro e w1 ⟨⟨A1, n1, c1, rfl, h1⟩, A2, n2, c2, h2, hg⟩
  have TX := h1.text Try.underlying22 Try.underlying5 Try.underlying9
  go_wp2_with fail
  go_ret
  exact ⟨rfl, A2, n2, c2, h2, hg⟩
#print axioms text_r
#print axioms rbytes_num
end Go.Proofs.Ytgplamfjemmfnaa
