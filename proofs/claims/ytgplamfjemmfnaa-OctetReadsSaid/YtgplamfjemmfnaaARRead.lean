/-
  octet: the document's Read: contract.
-/
import Derived.Test.YtgplamfjemmfnaaARNum
import Derived.Test.YtgplamfjemmfnaaARFail
namespace Go.Proofs.Ytgplamfjemmfnaa
open Go.RowKit

theorem Rd.fromM {w : World} {b o n c : Nat} {bs : List UInt8} (h : Rd w (some ⟨b, o, none⟩) n c bs) {t : Nat} (ht : t ≤ n) : Rd w (some ⟨b, o + t, none⟩) (n - t) (c - t) (bs.drop t) := by
  refine ⟨by rw [List.length_drop, h.len], by have := h.le; omega, by have := h.max; omega, fun h0 => ?_, fun e => by cases e⟩
  obtain ⟨b', o', hA, hb, hc⟩ := h.cells (by omega)
  injection hA with hA
  injection hA with e1 e2
  subst e1 e2
  refine ⟨b, o + t, rfl, hb, fun j hj => ?_⟩
  rw [Nat.add_assoc, hc (t + j) (by omega)]
  simp [List.getD, List.getElem?_drop]
theorem Rd.fromQ {w : World} {A : Option Addr} {n c : Nat} {bs : List UInt8} (h : Rd w A n c bs) {k : Nat} (hk : k ≤ n) : Rd w (if c = k then A else Option.map (fun x => x.add k) A) (n - k) (c - k) (bs.drop k) := by
  by_cases hn : n = 0
  · subst hn
    obtain rfl : k = 0 := by omega
    have hz : bs = [] := List.eq_nil_of_length_eq_zero h.len
    subst hz
    refine ⟨rfl, by omega, by have := h.max; omega, fun h0 => absurd h0 (by omega), fun hA => ?_⟩
    by_cases hc : c = 0
    · omega
    · rw [if_neg hc] at hA
      cases A with
      | none => have := h.none_ rfl; omega
      | some a => simp at hA
  · obtain ⟨b, o, rfl, hb, hc⟩ := h.cells (by omega)
    have hle := h.le
    by_cases hck : c = k
    · subst hck
      have : n = c := by omega
      subst this
      rw [if_pos rfl]
      exact ⟨by rw [List.length_drop, h.len], by omega, by omega, fun h0 => absurd h0 (by omega), fun e => by cases e⟩
    · rw [if_neg hck]
      show Rd w (some ((⟨b, o, none⟩ : Addr).add k)) (n - k) (c - k) (bs.drop k)
      rw [Addr.add_lit]
      exact h.fromM hk

/-- where Read stands behind: the place, the number, the error -/
def rreadF (bs : List UInt8) (a : Nat) (err : Int) (most : Nat) : Nat × Nat × Int :=
  if err ≠ 0 then (a, 0, err) else if (dec (bs.drop a)).2.2 ≠ 0 then (a, 0, (dec (bs.drop a)).2.2) else if most < (dec (bs.drop a)).1 then (a, 0, 2) else (a + (dec (bs.drop a)).2.1, (dec (bs.drop a)).1, 0)
theorem rreadF_num (bs : List UInt8) (a : Nat) (err : Int) (most : Nat) : rnum (bs.drop a) err most = ((rreadF bs a err most).2.1, bs.drop (rreadF bs a err most).1, (rreadF bs a err most).2.2) := by
  unfold rnum rreadF
  split
  · rfl
  · split
    · rfl
    · split
      · rfl
      · simp [List.drop_drop]
theorem rreadF_le (bs : List UInt8) (a : Nat) (err : Int) (most : Nat) (h : a ≤ bs.length) : (rreadF bs a err most).1 ≤ bs.length := by
  have := dec_le (bs.drop a)
  rw [List.length_drop] at this
  unfold rreadF
  split
  · exact h
  · split
    · exact h
    · split
      · exact h
      · show a + _ ≤ _; omega
def RReads (A : Option Addr) (n c : Nat) (p : Nat × Nat × Int) (w : World) (e : Ending) (w' : World) : Prop := e = .returned (.tuple #[.agg #[.slice A n c, .int .i64 p.1, .int .i64 p.2.2], .int .u64 p.2.1]) ∧ Below w.heap.size w w'


set_option maxRecDepth 100000 in
set_option maxHeartbeats 4000000 in
theorem rread_part (w : World) (A : Option Addr) (n c a : Nat) (bs : List UInt8) (h : Hid (Rd w A n c bs)) (ha : a ≤ n) (hca : ¬ c = a) (err : Int) (most : Nat) (_hm : most < 18446744073709551616) :
    Calls Try.prog 22 #[.agg #[.slice A n c, .int .i64 a, .int .i64 err], .int .u64 most] w (RReads A n c (rreadF bs a err most) w) := by
  have hle := h.out.le
  have hmax := h.out.max
  have HL := Lib.hid h.out.len
  obtain ⟨p, hp⟩ : ∃ p, p = rreadF bs a err most := ⟨_, rfl⟩
  rw [← hp]
  have HP := Lib.hid hp
  clear hp
  have aI : (a : Int) ≤ (n : Int) := by omega
  have aC : (a : Int) ≤ (c : Int) := by omega
  have a0 : (0 : Int) ≤ (a : Int) := by omega
  by_cases he : err = 0
  · subst he
    obtain ⟨v, k, e, hd⟩ : ∃ v k e, dec (bs.drop a) = (v, k, e) := ⟨_, _, _, rfl⟩
    have HD := Lib.hid hd
    have hk : k ≤ n - a := by have h1 := dec_le (bs.drop a); rw [hd, List.length_drop] at h1; have h2 := HL.out; have h3 : k ≤ bs.length - a := h1; omega
    have hv : v < 18446744073709551616 := by have := dec_lt (bs.drop a); rw [hd] at this; exact this
    clear hd
    by_cases h1 : e = 0
    · subst h1
      by_cases h2 : most < v
      · have PP : Hid (p = (a, 0, 2)) := by show _ = _; rw [HP.out]; unfold rreadF; rw [HD.out, if_neg (by simp), if_neg (by simp), if_pos h2]
        have q : (most : Int) < (v : Int) := by omega
        go_enter Try.func22, Try.ntmps22
        go_upto_region 1 with fail
        generalize hW : World.alloc (World.alloc w (.cells #[.slice A n c, .int .i64 a, .int .i64 0] 39)) (.cells #[.slice none 0 0, .int .i64 0, .int .i64 0] 39) = W
        have D : Hid (W.heap[w.heap.size]? = some (.cells #[.slice A n c, .int .i64 a, .int .i64 0] 39 (0, 0))) := by rw [← hW]; exact keepB3 (ext_alloc _ _) (Go.heap_alloc_new w _)
        have Rr : Hid (W.heap[w.heap.size + 1]? = some (.cells #[.slice none 0 0, .int .i64 0, .int .i64 0] 39 (0, 0))) := by rw [← hW]; exact heap_alloc_newest (w := World.alloc _ _) (by simp)
        have B : Hid (Below w.heap.size w W) := by rw [← hW]; exact ext_trans (ext_alloc _ _) (ext_alloc _ _)
        clear hW
        obtain ⟨c0, c1, c2, f0, f1, f2⟩ := full3f D.out
        obtain ⟨d0, d1, d2, g0, g1, g2⟩ := full3f Rr.out
        have RS : Hid (Rd W (if c = a then A else Option.map (fun x => x.add a) A) (n - a) (c - a) (bs.drop a)) := Lib.hid ((h.out.ext B.out).fromQ ha)
        rw [if_neg hca] at RS
        clear h
        go_wp2_with fail
        refine (rnumber_c W _ _ _ _ RS.out).mono ?_
        unfold Tells
        rw [HD.out]
        rintro x w1 ⟨rfl, rfl⟩
        go_wp2_with fail
        refine (rfail_c W (.slice A n c) a 0 2 ⟨_, _, _, rfl⟩).mono ?_
        rintro x w2 ⟨rfl, hb⟩
        replace Rr := Lib.hid (keepB3 hb Rr.out)
        replace B := Lib.hid (ext_trans B.out hb)
        clear hb d0 d1 d2 g0 g1 g2 c0 c1 c2 f0 f1 f2
        obtain ⟨d0, d1, d2, g0, g1, g2⟩ := full3f Rr.out
        have BF := Lib.hid (bel3 B.out (show w.heap.size ≤ w.heap.size + 1 by omega) (.slice A n c) (.int .i64 a) (.int .i64 2))
        obtain ⟨h0, h1, h2, _, _, _⟩ := full3f (set3 Rr.out (.slice A n c) (.int .i64 a) (.int .i64 2))
        go_wp2_with fail
        refine bodyPost_ret (v := .tuple #[.agg #[.slice A n c, .int .i64 a, .int .i64 2], .int .u64 0]) (by simp only [results, Try.results22]; simp [go_sem, h0, h1, h2]) rfl ⟨by rw [PP.out]; try rfl, BF.out⟩
      · have PP : Hid (p = (a + k, v, 0)) := by show _ = _; rw [HP.out]; unfold rreadF; rw [HD.out, if_neg (by simp), if_neg (by simp), if_neg h2]
        have q : ¬ (most : Int) < (v : Int) := by omega
        have wr : IntKind.i64.wrap ((a : Int) + (k : Int)) = (a : Int) + (k : Int) := IntWalk.i64_in _ (by omega)
        go_enter Try.func22, Try.ntmps22
        go_upto_region 1 with fail
        generalize hW : World.alloc (World.alloc w (.cells #[.slice A n c, .int .i64 a, .int .i64 0] 39)) (.cells #[.slice none 0 0, .int .i64 0, .int .i64 0] 39) = W
        have D : Hid (W.heap[w.heap.size]? = some (.cells #[.slice A n c, .int .i64 a, .int .i64 0] 39 (0, 0))) := by rw [← hW]; exact keepB3 (ext_alloc _ _) (Go.heap_alloc_new w _)
        have Rr : Hid (W.heap[w.heap.size + 1]? = some (.cells #[.slice none 0 0, .int .i64 0, .int .i64 0] 39 (0, 0))) := by rw [← hW]; exact heap_alloc_newest (w := World.alloc _ _) (by simp)
        have B : Hid (Below w.heap.size w W) := by rw [← hW]; exact ext_trans (ext_alloc _ _) (ext_alloc _ _)
        clear hW
        obtain ⟨c0, c1, c2, f0, f1, f2⟩ := full3f D.out
        obtain ⟨d0, d1, d2, g0, g1, g2⟩ := full3f Rr.out
        have RS : Hid (Rd W (if c = a then A else Option.map (fun x => x.add a) A) (n - a) (c - a) (bs.drop a)) := Lib.hid ((h.out.ext B.out).fromQ ha)
        rw [if_neg hca] at RS
        clear h
        go_wp2_with fail
        refine (rnumber_c W _ _ _ _ RS.out).mono ?_
        unfold Tells
        rw [HD.out]
        rintro x w1 ⟨rfl, rfl⟩
        go_upto_region 9 with fail
        have D2 := Lib.hid (setC_same W w.heap.size 1 _ _ (.int .i64 ((a : Int) + (k : Int))) D.out)
        have R2 : Hid ((W.setCell ⟨w.heap.size, 1, none⟩ (.int .i64 ((a : Int) + (k : Int)))).heap[w.heap.size + 1]? = some (.cells #[.slice none 0 0, .int .i64 0, .int .i64 0] 39 (0, 0))) := (Below.heap_setCell _ _ _ _ (show w.heap.size + 1 ≠ w.heap.size by omega)).trans Rr.out
        replace B := Lib.hid (bel1 B.out (Nat.le_refl _) (.int .i64 ((a : Int) + (k : Int))) (j := 1))
        clear c0 c1 c2 f0 f1 f2 d0 d1 d2 g0 g1 g2 D Rr
        generalize W.setCell ⟨w.heap.size, 1, none⟩ (.int .i64 ((a : Int) + (k : Int))) = U at *
        have Rr := R2
        obtain ⟨c0, c1, c2, f0, f1, f2⟩ := full3f (x0 := .slice A n c) (x1 := .int .i64 ((a : Int) + (k : Int))) (x2 := .int .i64 0) D2.out
        obtain ⟨d0, d1, d2, g0, g1, g2⟩ := full3f Rr.out
        have BF := Lib.hid (bel3 B.out (show w.heap.size ≤ w.heap.size + 1 by omega) (.slice A n c) (.int .i64 ((a : Int) + (k : Int))) (.int .i64 0))
        obtain ⟨h0, h1, h2, _, _, _⟩ := full3f (set3 Rr.out (.slice A n c) (.int .i64 ((a : Int) + (k : Int))) (.int .i64 0))
        go_wp2_with fail
        refine bodyPost_ret (v := .tuple #[.agg #[.slice A n c, .int .i64 ((a : Int) + (k : Int)), .int .i64 0], .int .u64 v]) (by simp only [results, Try.results22]; simp [go_sem, h0, h1, h2]) rfl ⟨by rw [PP.out]; try rfl, BF.out⟩
    · have PP : Hid (p = (a, 0, e)) := by show _ = _; rw [HP.out]; unfold rreadF; rw [HD.out, if_neg (by simp), if_pos h1]
      have q : (e == 0) = false := by rw [beq_eq_false_iff_ne]; exact h1
      have q2 : (e != 0) = true := by rw [bne_iff_ne]; exact h1
      go_enter Try.func22, Try.ntmps22
      go_upto_region 1 with fail
      generalize hW : World.alloc (World.alloc w (.cells #[.slice A n c, .int .i64 a, .int .i64 0] 39)) (.cells #[.slice none 0 0, .int .i64 0, .int .i64 0] 39) = W
      have D : Hid (W.heap[w.heap.size]? = some (.cells #[.slice A n c, .int .i64 a, .int .i64 0] 39 (0, 0))) := by rw [← hW]; exact keepB3 (ext_alloc _ _) (Go.heap_alloc_new w _)
      have Rr : Hid (W.heap[w.heap.size + 1]? = some (.cells #[.slice none 0 0, .int .i64 0, .int .i64 0] 39 (0, 0))) := by rw [← hW]; exact heap_alloc_newest (w := World.alloc _ _) (by simp)
      have B : Hid (Below w.heap.size w W) := by rw [← hW]; exact ext_trans (ext_alloc _ _) (ext_alloc _ _)
      clear hW
      obtain ⟨c0, c1, c2, f0, f1, f2⟩ := full3f D.out
      obtain ⟨d0, d1, d2, g0, g1, g2⟩ := full3f Rr.out
      have RS : Hid (Rd W (if c = a then A else Option.map (fun x => x.add a) A) (n - a) (c - a) (bs.drop a)) := Lib.hid ((h.out.ext B.out).fromQ ha)
      rw [if_neg hca] at RS
      clear h
      go_wp2_with fail
      refine (rnumber_c W _ _ _ _ RS.out).mono ?_
      unfold Tells
      rw [HD.out]
      rintro x w1 ⟨rfl, rfl⟩
      go_wp2_with fail
      refine (rfail_c W (.slice A n c) a 0 e ⟨_, _, _, rfl⟩).mono ?_
      rintro x w2 ⟨rfl, hb⟩
      replace Rr := Lib.hid (keepB3 hb Rr.out)
      replace B := Lib.hid (ext_trans B.out hb)
      clear hb d0 d1 d2 g0 g1 g2 c0 c1 c2 f0 f1 f2
      obtain ⟨d0, d1, d2, g0, g1, g2⟩ := full3f Rr.out
      have BF := Lib.hid (bel3 B.out (show w.heap.size ≤ w.heap.size + 1 by omega) (.slice A n c) (.int .i64 a) (.int .i64 e))
      obtain ⟨h0, h1, h2, _, _, _⟩ := full3f (set3 Rr.out (.slice A n c) (.int .i64 a) (.int .i64 e))
      go_wp2_with fail
      refine bodyPost_ret (v := .tuple #[.agg #[.slice A n c, .int .i64 a, .int .i64 e], .int .u64 0]) (by simp only [results, Try.results22]; simp [go_sem, h0, h1, h2]) rfl ⟨by rw [PP.out]; try rfl, BF.out⟩
  · have PP : Hid (p = (a, 0, err)) := by show _ = _; rw [HP.out]; unfold rreadF; rw [if_pos he]
    have q : (err != 0) = true := by rw [bne_iff_ne]; exact he
    go_enter Try.func22, Try.ntmps22
    go_upto_region 1 with fail
    generalize hW : World.alloc (World.alloc w (.cells #[.slice A n c, .int .i64 a, .int .i64 err] 39)) (.cells #[.slice none 0 0, .int .i64 0, .int .i64 0] 39) = W
    have D : Hid (W.heap[w.heap.size]? = some (.cells #[.slice A n c, .int .i64 a, .int .i64 err] 39 (0, 0))) := by rw [← hW]; exact keepB3 (ext_alloc _ _) (Go.heap_alloc_new w _)
    have Rr : Hid (W.heap[w.heap.size + 1]? = some (.cells #[.slice none 0 0, .int .i64 0, .int .i64 0] 39 (0, 0))) := by rw [← hW]; exact heap_alloc_newest (w := World.alloc _ _) (by simp)
    have B : Hid (Below w.heap.size w W) := by rw [← hW]; exact ext_trans (ext_alloc _ _) (ext_alloc _ _)
    clear hW
    obtain ⟨c0, c1, c2, f0, f1, f2⟩ := full3f D.out
    obtain ⟨d0, d1, d2, g0, g1, g2⟩ := full3f Rr.out
    have BF := Lib.hid (bel3 B.out (show w.heap.size ≤ w.heap.size + 1 by omega) (.slice A n c) (.int .i64 a) (.int .i64 err))
    obtain ⟨h0, h1, h2, _, _, _⟩ := full3f (set3 Rr.out (.slice A n c) (.int .i64 a) (.int .i64 err))
    go_wp2_with fail
    refine bodyPost_ret (v := .tuple #[.agg #[.slice A n c, .int .i64 a, .int .i64 err], .int .u64 0]) (by simp only [results, Try.results22]; simp [go_sem, h0, h1, h2]) rfl ⟨by rw [PP.out]; try rfl, BF.out⟩

set_option maxRecDepth 100000 in
set_option maxHeartbeats 4000000 in
theorem rread_whole (w : World) (A : Option Addr) (a : Nat) (bs : List UInt8) (h : Hid (Rd w A a a bs)) (ha : a ≤ a) (err : Int) (most : Nat) (_hm : most < 18446744073709551616) :
    Calls Try.prog 22 #[.agg #[.slice A a a, .int .i64 a, .int .i64 err], .int .u64 most] w (RReads A a a (rreadF bs a err most) w) := by
  have hle := h.out.le
  have hmax := h.out.max
  have HL := Lib.hid h.out.len
  obtain ⟨p, hp⟩ : ∃ p, p = rreadF bs a err most := ⟨_, rfl⟩
  rw [← hp]
  have HP := Lib.hid hp
  clear hp
  have aI : (a : Int) ≤ (a : Int) := by omega
  have aC : (a : Int) ≤ (a : Int) := by omega
  have a0 : (0 : Int) ≤ (a : Int) := by omega
  by_cases he : err = 0
  · subst he
    obtain ⟨v, k, e, hd⟩ : ∃ v k e, dec (bs.drop a) = (v, k, e) := ⟨_, _, _, rfl⟩
    have HD := Lib.hid hd
    have hk : k ≤ a - a := by have h1 := dec_le (bs.drop a); rw [hd, List.length_drop] at h1; have h2 := HL.out; have h3 : k ≤ bs.length - a := h1; omega
    have hv : v < 18446744073709551616 := by have := dec_lt (bs.drop a); rw [hd] at this; exact this
    clear hd
    by_cases h1 : e = 0
    · subst h1
      by_cases h2 : most < v
      · have PP : Hid (p = (a, 0, 2)) := by show _ = _; rw [HP.out]; unfold rreadF; rw [HD.out, if_neg (by simp), if_neg (by simp), if_pos h2]
        have q : (most : Int) < (v : Int) := by omega
        go_enter Try.func22, Try.ntmps22
        go_upto_region 1 with fail
        generalize hW : World.alloc (World.alloc w (.cells #[.slice A a a, .int .i64 a, .int .i64 0] 39)) (.cells #[.slice none 0 0, .int .i64 0, .int .i64 0] 39) = W
        have D : Hid (W.heap[w.heap.size]? = some (.cells #[.slice A a a, .int .i64 a, .int .i64 0] 39 (0, 0))) := by rw [← hW]; exact keepB3 (ext_alloc _ _) (Go.heap_alloc_new w _)
        have Rr : Hid (W.heap[w.heap.size + 1]? = some (.cells #[.slice none 0 0, .int .i64 0, .int .i64 0] 39 (0, 0))) := by rw [← hW]; exact heap_alloc_newest (w := World.alloc _ _) (by simp)
        have B : Hid (Below w.heap.size w W) := by rw [← hW]; exact ext_trans (ext_alloc _ _) (ext_alloc _ _)
        clear hW
        obtain ⟨c0, c1, c2, f0, f1, f2⟩ := full3f D.out
        obtain ⟨d0, d1, d2, g0, g1, g2⟩ := full3f Rr.out
        have RS : Hid (Rd W (if a = a then A else Option.map (fun x => x.add a) A) (a - a) (a - a) (bs.drop a)) := Lib.hid ((h.out.ext B.out).fromQ ha)
        rw [if_pos rfl, Nat.sub_self] at RS
        clear h
        go_wp2_with fail
        refine (rnumber_c W _ _ _ _ RS.out).mono ?_
        unfold Tells
        rw [HD.out]
        rintro x w1 ⟨rfl, rfl⟩
        go_wp2_with fail
        refine (rfail_c W (.slice A a a) a 0 2 ⟨_, _, _, rfl⟩).mono ?_
        rintro x w2 ⟨rfl, hb⟩
        replace Rr := Lib.hid (keepB3 hb Rr.out)
        replace B := Lib.hid (ext_trans B.out hb)
        clear hb d0 d1 d2 g0 g1 g2 c0 c1 c2 f0 f1 f2
        obtain ⟨d0, d1, d2, g0, g1, g2⟩ := full3f Rr.out
        have BF := Lib.hid (bel3 B.out (show w.heap.size ≤ w.heap.size + 1 by omega) (.slice A a a) (.int .i64 a) (.int .i64 2))
        obtain ⟨h0, h1, h2, _, _, _⟩ := full3f (set3 Rr.out (.slice A a a) (.int .i64 a) (.int .i64 2))
        go_wp2_with fail
        refine bodyPost_ret (v := .tuple #[.agg #[.slice A a a, .int .i64 a, .int .i64 2], .int .u64 0]) (by simp only [results, Try.results22]; simp [go_sem, h0, h1, h2]) rfl ⟨by rw [PP.out]; try rfl, BF.out⟩
      · have PP : Hid (p = (a + k, v, 0)) := by show _ = _; rw [HP.out]; unfold rreadF; rw [HD.out, if_neg (by simp), if_neg (by simp), if_neg h2]
        have q : ¬ (most : Int) < (v : Int) := by omega
        have wr : IntKind.i64.wrap ((a : Int) + (k : Int)) = (a : Int) + (k : Int) := IntWalk.i64_in _ (by omega)
        go_enter Try.func22, Try.ntmps22
        go_upto_region 1 with fail
        generalize hW : World.alloc (World.alloc w (.cells #[.slice A a a, .int .i64 a, .int .i64 0] 39)) (.cells #[.slice none 0 0, .int .i64 0, .int .i64 0] 39) = W
        have D : Hid (W.heap[w.heap.size]? = some (.cells #[.slice A a a, .int .i64 a, .int .i64 0] 39 (0, 0))) := by rw [← hW]; exact keepB3 (ext_alloc _ _) (Go.heap_alloc_new w _)
        have Rr : Hid (W.heap[w.heap.size + 1]? = some (.cells #[.slice none 0 0, .int .i64 0, .int .i64 0] 39 (0, 0))) := by rw [← hW]; exact heap_alloc_newest (w := World.alloc _ _) (by simp)
        have B : Hid (Below w.heap.size w W) := by rw [← hW]; exact ext_trans (ext_alloc _ _) (ext_alloc _ _)
        clear hW
        obtain ⟨c0, c1, c2, f0, f1, f2⟩ := full3f D.out
        obtain ⟨d0, d1, d2, g0, g1, g2⟩ := full3f Rr.out
        have RS : Hid (Rd W (if a = a then A else Option.map (fun x => x.add a) A) (a - a) (a - a) (bs.drop a)) := Lib.hid ((h.out.ext B.out).fromQ ha)
        rw [if_pos rfl, Nat.sub_self] at RS
        clear h
        go_wp2_with fail
        refine (rnumber_c W _ _ _ _ RS.out).mono ?_
        unfold Tells
        rw [HD.out]
        rintro x w1 ⟨rfl, rfl⟩
        go_upto_region 9 with fail
        have D2 := Lib.hid (setC_same W w.heap.size 1 _ _ (.int .i64 ((a : Int) + (k : Int))) D.out)
        have R2 : Hid ((W.setCell ⟨w.heap.size, 1, none⟩ (.int .i64 ((a : Int) + (k : Int)))).heap[w.heap.size + 1]? = some (.cells #[.slice none 0 0, .int .i64 0, .int .i64 0] 39 (0, 0))) := (Below.heap_setCell _ _ _ _ (show w.heap.size + 1 ≠ w.heap.size by omega)).trans Rr.out
        replace B := Lib.hid (bel1 B.out (Nat.le_refl _) (.int .i64 ((a : Int) + (k : Int))) (j := 1))
        clear c0 c1 c2 f0 f1 f2 d0 d1 d2 g0 g1 g2 D Rr
        generalize W.setCell ⟨w.heap.size, 1, none⟩ (.int .i64 ((a : Int) + (k : Int))) = U at *
        have Rr := R2
        obtain ⟨c0, c1, c2, f0, f1, f2⟩ := full3f (x0 := .slice A a a) (x1 := .int .i64 ((a : Int) + (k : Int))) (x2 := .int .i64 0) D2.out
        obtain ⟨d0, d1, d2, g0, g1, g2⟩ := full3f Rr.out
        have BF := Lib.hid (bel3 B.out (show w.heap.size ≤ w.heap.size + 1 by omega) (.slice A a a) (.int .i64 ((a : Int) + (k : Int))) (.int .i64 0))
        obtain ⟨h0, h1, h2, _, _, _⟩ := full3f (set3 Rr.out (.slice A a a) (.int .i64 ((a : Int) + (k : Int))) (.int .i64 0))
        go_wp2_with fail
        refine bodyPost_ret (v := .tuple #[.agg #[.slice A a a, .int .i64 ((a : Int) + (k : Int)), .int .i64 0], .int .u64 v]) (by simp only [results, Try.results22]; simp [go_sem, h0, h1, h2]) rfl ⟨by rw [PP.out]; try rfl, BF.out⟩
    · have PP : Hid (p = (a, 0, e)) := by show _ = _; rw [HP.out]; unfold rreadF; rw [HD.out, if_neg (by simp), if_pos h1]
      have q : (e == 0) = false := by rw [beq_eq_false_iff_ne]; exact h1
      have q2 : (e != 0) = true := by rw [bne_iff_ne]; exact h1
      go_enter Try.func22, Try.ntmps22
      go_upto_region 1 with fail
      generalize hW : World.alloc (World.alloc w (.cells #[.slice A a a, .int .i64 a, .int .i64 0] 39)) (.cells #[.slice none 0 0, .int .i64 0, .int .i64 0] 39) = W
      have D : Hid (W.heap[w.heap.size]? = some (.cells #[.slice A a a, .int .i64 a, .int .i64 0] 39 (0, 0))) := by rw [← hW]; exact keepB3 (ext_alloc _ _) (Go.heap_alloc_new w _)
      have Rr : Hid (W.heap[w.heap.size + 1]? = some (.cells #[.slice none 0 0, .int .i64 0, .int .i64 0] 39 (0, 0))) := by rw [← hW]; exact heap_alloc_newest (w := World.alloc _ _) (by simp)
      have B : Hid (Below w.heap.size w W) := by rw [← hW]; exact ext_trans (ext_alloc _ _) (ext_alloc _ _)
      clear hW
      obtain ⟨c0, c1, c2, f0, f1, f2⟩ := full3f D.out
      obtain ⟨d0, d1, d2, g0, g1, g2⟩ := full3f Rr.out
      have RS : Hid (Rd W (if a = a then A else Option.map (fun x => x.add a) A) (a - a) (a - a) (bs.drop a)) := Lib.hid ((h.out.ext B.out).fromQ ha)
      rw [if_pos rfl, Nat.sub_self] at RS
      clear h
      go_wp2_with fail
      refine (rnumber_c W _ _ _ _ RS.out).mono ?_
      unfold Tells
      rw [HD.out]
      rintro x w1 ⟨rfl, rfl⟩
      go_wp2_with fail
      refine (rfail_c W (.slice A a a) a 0 e ⟨_, _, _, rfl⟩).mono ?_
      rintro x w2 ⟨rfl, hb⟩
      replace Rr := Lib.hid (keepB3 hb Rr.out)
      replace B := Lib.hid (ext_trans B.out hb)
      clear hb d0 d1 d2 g0 g1 g2 c0 c1 c2 f0 f1 f2
      obtain ⟨d0, d1, d2, g0, g1, g2⟩ := full3f Rr.out
      have BF := Lib.hid (bel3 B.out (show w.heap.size ≤ w.heap.size + 1 by omega) (.slice A a a) (.int .i64 a) (.int .i64 e))
      obtain ⟨h0, h1, h2, _, _, _⟩ := full3f (set3 Rr.out (.slice A a a) (.int .i64 a) (.int .i64 e))
      go_wp2_with fail
      refine bodyPost_ret (v := .tuple #[.agg #[.slice A a a, .int .i64 a, .int .i64 e], .int .u64 0]) (by simp only [results, Try.results22]; simp [go_sem, h0, h1, h2]) rfl ⟨by rw [PP.out]; try rfl, BF.out⟩
  · have PP : Hid (p = (a, 0, err)) := by show _ = _; rw [HP.out]; unfold rreadF; rw [if_pos he]
    have q : (err != 0) = true := by rw [bne_iff_ne]; exact he
    go_enter Try.func22, Try.ntmps22
    go_upto_region 1 with fail
    generalize hW : World.alloc (World.alloc w (.cells #[.slice A a a, .int .i64 a, .int .i64 err] 39)) (.cells #[.slice none 0 0, .int .i64 0, .int .i64 0] 39) = W
    have D : Hid (W.heap[w.heap.size]? = some (.cells #[.slice A a a, .int .i64 a, .int .i64 err] 39 (0, 0))) := by rw [← hW]; exact keepB3 (ext_alloc _ _) (Go.heap_alloc_new w _)
    have Rr : Hid (W.heap[w.heap.size + 1]? = some (.cells #[.slice none 0 0, .int .i64 0, .int .i64 0] 39 (0, 0))) := by rw [← hW]; exact heap_alloc_newest (w := World.alloc _ _) (by simp)
    have B : Hid (Below w.heap.size w W) := by rw [← hW]; exact ext_trans (ext_alloc _ _) (ext_alloc _ _)
    clear hW
    obtain ⟨c0, c1, c2, f0, f1, f2⟩ := full3f D.out
    obtain ⟨d0, d1, d2, g0, g1, g2⟩ := full3f Rr.out
    have BF := Lib.hid (bel3 B.out (show w.heap.size ≤ w.heap.size + 1 by omega) (.slice A a a) (.int .i64 a) (.int .i64 err))
    obtain ⟨h0, h1, h2, _, _, _⟩ := full3f (set3 Rr.out (.slice A a a) (.int .i64 a) (.int .i64 err))
    go_wp2_with fail
    refine bodyPost_ret (v := .tuple #[.agg #[.slice A a a, .int .i64 a, .int .i64 err], .int .u64 0]) (by simp only [results, Try.results22]; simp [go_sem, h0, h1, h2]) rfl ⟨by rw [PP.out]; try rfl, BF.out⟩

theorem rread_c (w : World) (A : Option Addr) (n c : Nat) (bs : List UInt8) (h : Hid (Rd w A n c bs)) (a : Nat) (ha : a ≤ n) (err : Int) (most : Nat) (hm : most < 18446744073709551616) :
    Calls Try.prog 22 #[.agg #[.slice A n c, .int .i64 a, .int .i64 err], .int .u64 most] w (RReads A n c (rreadF bs a err most) w) := by
  by_cases hca : c = a
  · subst hca
    obtain rfl : n = c := by have := h.out.le; omega
    exact rread_whole w A n bs h (Nat.le_refl _) err most hm
  · exact rread_part w A n c a bs h ha hca err most hm
#print axioms rread_c
end Go.Proofs.Ytgplamfjemmfnaa
