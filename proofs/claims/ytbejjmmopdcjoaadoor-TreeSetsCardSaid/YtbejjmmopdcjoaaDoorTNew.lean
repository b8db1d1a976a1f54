/-
  tree: New: contracts.
-/
import Derived.Test.YtbejjmmopdcjoaaDoorTTree
import Derived.Test.YtbejjmmopdcjoaaDoorSchedF
namespace Go.Proofs.YtbejjmmopdcjoaaDoor
open Go.RowKit Go.Deep

theorem Part.pushed {w0 w v : World} {Lo T k Bk gl g1 : Nat} {l : List Nat} {x Y : Obj} (P : Part w (fun b => b = Bk ∨ b = gl) Lo T k l) (hg : (w.alloc x).grownBy v (some gl)) (hl : gl = g1 ∨ g1 = w.heap.size + 1) (hB : Below Lo w0 w) (hs : Lo ≤ w.heap.size) (hgl : Lo ≤ gl) (K : w.heap[Bk]? = some Y) (GB : gl ≠ Bk) :
    Part v (fun b => b = Bk ∨ b = g1) Lo T k l ∧ v.heap[Bk]? = some Y ∧ Below Lo w0 v ∧ g1 ≠ Bk ∧ g1 ≠ T := by
  have Klt : Bk < w.heap.size := (Array.getElem?_eq_some_iff.1 K).1
  have Tlt := P.tlt
  have hTgl : gl ≠ T := fun e => P.xt (.inr e.symm)
  have P2 : Part w (fun b => b = Bk ∨ b = gl ∨ b = g1) Lo T k l := P.other (fun b hb e => by omega)
  have P3 : Part v (fun b => b = Bk ∨ b = gl ∨ b = g1) Lo T k l := (P2.ext (ext_alloc w x)).keep (fun b hb hx => hg.block b hb (fun e => hx (.inr (.inl (by injection e)))))
  refine ⟨P3.other (fun b _ e => by omega), ?_, (hB.alloc hs x).grown hg (by simp; omega) (fun j hj => by injection hj with hj; omega), by omega, by omega⟩
  exact (hg.block Bk (by simp; omega) (fun e => by injection e with e; omega)).trans (heap_alloc_old Klt K)

def News (w : World) (l : List Nat) (e : Ending) (w' : World) : Prop := ∃ T, e = .returned (.tuple #[.pointer (some ⟨T, 0, none⟩), .int .i64 0]) ∧ TrAt w' w.heap.size T l ∧ Below w.heap.size w w'

set_option maxRecDepth 100000 in
set_option maxHeartbeats 2000000 in
theorem new_no (w : World) (A : Option Addr) (n c : Nat) (hn : n < 9223372036854775808) (h0 : ¬ (1 ≤ n ∧ n ≤ 4096)) : Calls Tryd.prog 24 #[.slice A n c] w (fun e w' => e = .returned (.tuple #[.pointer none, .int .i64 2]) ∧ w' = w) := by
  have HH := Lib.hid (heightI_no h0)
  go_enter Tryd.func24, Tryd.ntmps24
  go_wp2_with fail
  refine (height_c _ n (by omega)).mono ?_
  rw [HH.out]
  rintro e w1 ⟨rfl, rfl⟩
  go_wp2_with fail
  refine bodyPost_ret (v := .tuple #[.pointer none, .int .i64 2]) (by simp only [results, Tryd.results24]; simp [go_sem]) rfl ⟨rfl, rfl⟩

set_option maxRecDepth 100000 in
set_option maxHeartbeats 2000000 in
theorem new_ok (w : World) (b o n c : Nat) (l : List Nat) (h : Hid (RdD w (some ⟨b, o, none⟩) n c l)) (n1 : 1 ≤ n) (n2 : n ≤ 4096) : Calls Tryd.prog 24 #[.slice (some ⟨b, o, none⟩) n c] w (News w l) := by
  have HL := Lib.hid h.out.len
  have HSm : Hid (Small l) := h.out.small
  have HH := Lib.hid (heightI_ok n1 n2)
  obtain ⟨H, hH⟩ : ∃ H, H = hgt n := ⟨_, rfl⟩
  have H12 : H ≤ 12 := by rw [hH]; exact hgt_le n2
  have HT : Hid (n ≤ 2 ^ H) := by show _ ≤ _; rw [hH]; exact hgt_ge n
  have HE : Hid (hgt l.length = H) := by show _ = _; rw [HL.out, hH]
  rw [← hH] at HH
  clear hH
  go_enter Tryd.func24, Tryd.ntmps24
  go_wp2_with fail
  refine (height_c _ n (by omega)).mono ?_
  rw [HH.out]
  rintro e w1 ⟨rfl, rfl⟩
  have gH : ¬ (H : Int) < 0 := by omega
  go_wp2_with fail
  refine (cloneD_c _ b o n c l h (by omega) (by omega)).mono ?_
  rintro e w2 ⟨g0, c0, rfl, hg0, hO, hb⟩
  have O0 := Lib.hid hO
  have B2 := Lib.hid hb
  have z2 : g0 < w2.heap.size := hO.at_lt
  clear hO hb
  go_upto_region 5 with fail
  generalize hW : w2.alloc (.cells #[.slice (some ⟨g0, 0, none⟩) n c0, .slice none 0 0, .slice none 0 0, .slice none 0 0, .slice none 0 0, .slice none 0 0, .slice none 0 0, .slice none 0 0, .slice none 0 0, .slice none 0 0, .slice none 0 0, .slice none 0 0, .slice none 0 0, .slice none 0 0] 80) = V0
  have sz : V0.heap.size = w2.heap.size + 1 := by rw [← hW]; simp
  have P0 : Hid (Part V0 (fun b => V0.heap.size ≤ b) w1.heap.size w2.heap.size 0 l) := by
    refine ⟨B2.out.size, by omega, _, g0, c0, fun _ => 0, fun _ => 0, by rw [← hW]; exact Go.heap_alloc_new w2 _, rfl, by rw [HL.out]; rfl, ?_, by omega, by omega, fun j hj => by omega, fun j j' hj => by omega⟩
    rw [HL.out, ← hW]
    exact O0.out.ext (ext_alloc _ _)
  have B3 : Hid (Below w1.heap.size w1 V0) := by rw [← hW]; exact ext_trans B2.out (ext_alloc _ _)
  have h3 : Hid (RdD V0 (some ⟨b, o, none⟩) n c l) := h.out.ext B3.out
  have LoV : w1.heap.size ≤ V0.heap.size := B3.out.size
  obtain ⟨T, hT⟩ : ∃ T, T = w2.heap.size := ⟨_, rfl⟩
  obtain ⟨G, hG⟩ : ∃ G, G = V0.heap.size := ⟨_, rfl⟩
  rw [← hT] at P0 sz ⊢
  have TV : T < V0.heap.size := by omega
  clear hW O0 B2 z2 hT sz
  go_wp2_with fail
  refine (lowest_c _ _ n c l h3 (by omega)).mono ?_
  rintro e v1 ⟨rfl, hO, hb⟩
  have O1 : Hid (OwnD v1 26 w1.heap.size (some ⟨V0.heap.size, 0, none⟩) n (n + 1) (level l 0)) := by
    show OwnD _ _ _ _ _ _ _
    rw [level_zero]
    exact hO.low LoV
  have P1 := Lib.hid (P0.out.ext hb)
  have B4 := Lib.hid (ext_trans B3.out hb)
  have G1 : V0.heap.size < v1.heap.size := hO.at_lt
  clear hO hb h3 P0 B3
  obtain ⟨y0, hy0⟩ : ∃ y0, y0 = lackT := ⟨_, rfl⟩
  have HY0 : Hid (y0 = lacks 0) := by show _ = _; rw [lacks_zero]; exact hy0
  go_wp2_with fail
  refine (noLeaf_c _).mono ?_
  rw [← hy0]
  unfold digV
  rintro e v2 ⟨rfl, hb⟩
  clear hy0
  replace O1 := Lib.hid (O1.out.ext hb)
  replace P1 := Lib.hid (P1.out.ext hb)
  replace B4 := Lib.hid (ext_trans B4.out hb)
  have G2 : V0.heap.size < v2.heap.size := Nat.lt_of_lt_of_le G1 hb.size
  clear hb
  go_upto_region 6 with fail
  rw [← hG] at O1 P1 G2 TV ⊢
  generalize hW : World.alloc v2 (.cells #[.int .u8 (byt y0 0), .int .u8 (byt y0 1), .int .u8 (byt y0 2), .int .u8 (byt y0 3), .int .u8 (byt y0 4), .int .u8 (byt y0 5), .int .u8 (byt y0 6), .int .u8 (byt y0 7)] 26) = v3
  have K3 : Hid (v3.heap[v2.heap.size]? = some (.cells #[.int .u8 (byt y0 0), .int .u8 (byt y0 1), .int .u8 (byt y0 2), .int .u8 (byt y0 3), .int .u8 (byt y0 4), .int .u8 (byt y0 5), .int .u8 (byt y0 6), .int .u8 (byt y0 7)] 26 (0, 0))) := by rw [← hW]; exact Go.heap_alloc_new v2 _
  replace O1 : Hid (OwnD v3 26 w1.heap.size (some ⟨G, 0, none⟩) n (n + 1) (level l 0)) := by rw [← hW]; exact O1.out.ext (ext_alloc _ _)
  have P2 : Hid (Part v3 (fun b => b = v2.heap.size ∨ b = G) w1.heap.size T 0 l) := by rw [← hW]; exact (P1.out.ext (ext_alloc _ _)).other (fun b _ hb => by rcases hb with rfl | rfl <;> omega)
  replace B4 : Hid (Below w1.heap.size w1 v3) := by rw [← hW]; exact ext_trans B4.out (ext_alloc _ _)
  obtain ⟨Bk, hBk⟩ : ∃ Bk, Bk = v2.heap.size := ⟨_, rfl⟩
  rw [← hBk] at K3 P2 G2 ⊢
  have GB : G ≠ Bk := by omega
  have KLo : w1.heap.size ≤ Bk := by omega
  clear hW P1 hBk hG G1 G2 TV LoV
  go_wp2_with fail
  go_loopw [6, 22] (fun lv iv wr => ∃ (k gl cl y : Nat), k ≤ H ∧ iv = .int .i64 k ∧ lv = .slice (some ⟨gl, 0, none⟩) (wid n k) cl ∧ gl ≠ Bk ∧ Hid (y = lacks k) ∧ Hid (wr.heap[Bk]? = some (.cells #[.int .u8 (byt y 0), .int .u8 (byt y 1), .int .u8 (byt y 2), .int .u8 (byt y 3), .int .u8 (byt y 4), .int .u8 (byt y 5), .int .u8 (byt y 6), .int .u8 (byt y 7)] 26 (0, 0))) ∧ Hid (OwnD wr 26 w1.heap.size (some ⟨gl, 0, none⟩) (wid n k) cl (level l k)) ∧ Hid (Part wr (fun b => b = Bk ∨ b = gl) w1.heap.size T k l) ∧ Hid (Below w1.heap.size w1 wr)) (fun _ iv _ => H - (intOf iv).toNat)
  case atStart => exact ⟨0, G, n + 1, y0, Nat.zero_le _, rfl, rfl, GB, HY0.out, K3.out, O1.out, P2.out, B4.out⟩
  case round =>
    clear K3 O1 P2 B4 HY0
    obtain ⟨k, gl, cl, y, hk, rfl, rfl, GB, HY, K3, O1, P2, B4⟩ := hrel
    have B4s := B4.out.size
    have glt := O1.out.at_lt
    have Tlt := P2.out.tlt
    have Klt : Bk < wr.heap.size := (Array.getElem?_eq_some_iff.1 K3.out).1
    have NT : gl ≠ T := fun e => P2.out.xt (.inr e.symm)
    have NB : Bk ≠ T := fun e => P2.out.xt (.inl e.symm)
    have LO := P2.out.lo
    have glo : w1.heap.size ≤ gl := O1.out.rowK.2.1
    by_cases hlt : k < H
    · obtain ⟨W, hW⟩ : ∃ W, W = wid n k := ⟨_, rfl⟩
      have HW := Lib.hid hW
      have W1 : 0 < W := by rw [hW]; exact wid_pos (by omega) k
      have W2 : W ≤ 4096 := by rw [hW]; exact Nat.le_trans (wid_le k) n2
      rw [← hW] at O1 ⊢
      have ly : y < 18446744073709551616 := by rw [HY.out]; exact lacks_lt k
      have HLX : Hid (levX l k = levelP l k) := levX_low (by rw [HE.out]; exact hlt)
      have HWL : Hid (wid l.length k = W) := by show _ = _; rw [HL.out, hW]
      have hltI : (k : Int) < (H : Int) := by omega
      have hkI : (0 : Int) ≤ (k : Int) := by omega
      clear hW
      by_cases hodd : W % 2 = 1
      · have o1 : (W : Int).tmod 2 = 1 := by rw [Int.tmod_eq_emod_of_nonneg (by omega)]; omega
        have o2 : (W : Int) % 2 = 1 := by omega
        obtain ⟨d0, d1, d2, d3, d4, d5, d6, d7, _, _, _, _, _, _, _, _⟩ := full8 K3.out
        go_upto_region 12 with (refine wpList_pushL (o := ⟨some 32, _, _, _, _, _⟩) rfl (.tmp 29) (.tmp 31) rfl w1.heap.size gl W cl (level l k) (by rfl) O1.out y ly (by rfl) (by omega) (by omega) ?_; intro g1 c1 v1 hO hg hl; have O2 := Lib.hid hO; have PX := Lib.hid (P2.out.pushed hg hl B4.out B4s glo K3.out GB); have CT := PX.out.1.cell (i := 1 + k) (by omega); clear hO hg hl; obtain ⟨⟨tv, ct⟩, ft⟩ := CT; go_simp)
        obtain ⟨PV, KV, BV, NE, NT3⟩ := PX.out
        replace PV := Lib.hid PV
        replace KV := Lib.hid KV
        replace BV := Lib.hid BV
        have e1 : level l k ++ [y] = levX l k := by rw [HY.out, HLX.out]; exact level_odd (by rw [HWL.out]; exact hodd)
        have O3 : Hid (OwnD v1 26 w1.heap.size (some ⟨g1, 0, none⟩) (W + 1) c1 (levX l k)) := by show OwnD _ _ _ _ _ _ _; rw [← e1]; exact O2.out
        have HN1 : Hid (W + 1 = (levX l k).length) := O3.out.len.symm
        have HM : Hid (wid n (k + 1) = (W + 1) / 2) := by show (wid n k + wid n k % 2) / 2 = _; rw [← HW.out, hodd]
        have HPL : Hid (pairs (levX l k) (wid n (k + 1)) = level l (k + 1)) := by show _ = _; rw [HLX.out, ← HL.out]; exact pairs_level l k
        clear O2 PX e1 ct ft K3 P2 O1 B4
        have PQ : Hid (Part (v1.setCell ⟨T, 1 + k, none⟩ (.slice (some ⟨g1, 0, none⟩) (W + 1) c1)) (fun b => b = Bk) w1.heap.size T (k + 1) l) := PV.out.store (by omega) HN1.out O3.out (.inr rfl) (fun b hb => ⟨.inl hb, fun e => NE (e.symm.trans hb)⟩) rfl
        have OQ : Hid (RdD (v1.setCell ⟨T, 1 + k, none⟩ (.slice (some ⟨g1, 0, none⟩) (W + 1) c1)) (some ⟨g1, 0, none⟩) (W + 1) c1 (levX l k)) := (O3.out.keep (Below.heap_setCell _ _ _ _ NT3)).rd
        have KQ : Hid ((v1.setCell ⟨T, 1 + k, none⟩ (.slice (some ⟨g1, 0, none⟩) (W + 1) c1)).heap[Bk]? = some (.cells #[.int .u8 (byt y 0), .int .u8 (byt y 1), .int .u8 (byt y 2), .int .u8 (byt y 3), .int .u8 (byt y 4), .int .u8 (byt y 5), .int .u8 (byt y 6), .int .u8 (byt y 7)] 26 (0, 0))) := (Below.heap_setCell _ _ _ _ NB).trans KV.out
        have BQ : Hid (Below w1.heap.size w1 (v1.setCell ⟨T, 1 + k, none⟩ (.slice (some ⟨g1, 0, none⟩) (W + 1) c1))) := below_set BV.out (Nat.le_refl _) LO
        generalize (v1.setCell ⟨T, 1 + k, none⟩ (.slice (some ⟨g1, 0, none⟩) (W + 1) c1)) = V at *
        have Ks : Bk < V.heap.size := (Array.getElem?_eq_some_iff.1 KQ.out).1
        refine wp_region_schedF (fin := 6) (fun u => Below V.heap.size V u) [(true, 0), (true, 2), (true, 3), (false, 1), (false, 4), (true, 5), (false, 6)] (by kernel_rfl) rfl (by kernel_rfl) (by kernel_rfl) (by kernel_rfl) (fun _ _ d _ _ h => by cases d <;> exact h) (ext_drew V) ?_
        intro J0 hJ0
        iterate 3 (refine schedF_pure (v := ?_) rfl (by rfl) ?_ ?_; rotate_left; (focus (intro u hC; obtain ⟨d0, d1, d2, d3, d4, d5, d6, d7, _, _, _, _, _, _, _, _⟩ := full8 (keepB hC KQ.out); go_simp; try with_reducible rfl)); try go_simp)
        refine schedF_eff rfl ?_
        intro J hJ
        go_wp2_with fail
        refine (above_c _ _ (W + 1) c1 (wid n (k + 1)) (levX l k) (Lib.hid (OQ.out.ext (ext_drew V))) (by omega) HM.out).mono ?_
        rintro e v5 ⟨rfl, hO, hb⟩
        have O5 : Hid (OwnD v5 26 V.heap.size (some ⟨V.heap.size, 0, none⟩) (wid n (k + 1)) (wid n (k + 1) + 1) (level l (k + 1))) := by show OwnD _ _ _ _ _ _ _; rw [← HPL.out]; exact hO
        have Q : Hid (Below V.heap.size V v5) := Lib.hid (ext_trans (ext_drew V) hb)
        clear hO hb
        go_wp2_with fail
        refine ⟨fun _ => Q.out, ?_⟩
        refine schedF_eff rfl ?_
        intro J hJ
        go_wp2_with fail
        rw [← show digV y = .agg #[.int .u8 (byt y 0), .int .u8 (byt y 1), .int .u8 (byt y 2), .int .u8 (byt y 3), .int .u8 (byt y 4), .int .u8 (byt y 5), .int .u8 (byt y 6), .int .u8 (byt y 7)] from rfl]
        refine (two_c _ y y ly ly).mono ?_
        obtain ⟨z, hz⟩ : ∃ z, z = twoN y y := ⟨_, rfl⟩
        have HZ : Hid (z = lacks (k + 1)) := by show _ = _; rw [hz, HY.out, lacks_more]
        rw [← hz]
        unfold digV
        rintro e v6 ⟨rfl, hb⟩
        have Q2 : Hid (Below V.heap.size V v6) := Lib.hid (ext_trans Q.out hb)
        replace O5 := Lib.hid (O5.out.ext hb)
        have K6 := Lib.hid (keepB Q2.out KQ.out)
        clear hb hz
        go_wp2_with fail
        refine ⟨fun _ => Q2.out, ?_⟩
        refine schedF_pure (v := ?_) rfl (by rfl) ?_ ?_; rotate_left
        focus (intro u hC; go_simp; try with_reducible rfl)
        try go_simp
        obtain ⟨d0, d1, d2, d3, d4, d5, d6, d7, f0, f1, f2, f3, f4, f5, f6, f7⟩ := full8 K6.out
        refine schedF_eff rfl ?_
        intro J hJ
        go_wp2_with fail
        first | refine hJ0 _ _ ?_ | (refine ⟨by first | exact fun h => absurd rfl h | trivial, ?_⟩; refine schedF_nil (hJ0 _ _ ?_))
        clear hJ0 d0 d1 d2 d3 d4 d5 d6 d7 f0 f1 f2 f3 f4 f5 f6 f7
        go_wp2_with fail
        have P6 : Hid (Part v6 (fun b => b = Bk ∨ b = V.heap.size) w1.heap.size T (k + 1) l) := (PQ.out.other (fun b hb e => by rcases e with e | e; exact e; omega)).ext Q2.out
        have glt6 := O5.out.at_lt
        exact ⟨⟨k + 1, V.heap.size, wid n (k + 1) + 1, z, by omega, by go_num, rfl, by omega, HZ.out, set8 K6.out (.int .u8 (byt z 0)) (.int .u8 (byt z 1)) (.int .u8 (byt z 2)) (.int .u8 (byt z 3)) (.int .u8 (byt z 4)) (.int .u8 (byt z 5)) (.int .u8 (byt z 6)) (.int .u8 (byt z 7)), (O5.out.low BQ.out.size).keep (oth8 (by omega) rfl (.int .u8 (byt z 0)) (.int .u8 (byt z 1)) (.int .u8 (byt z 2)) (.int .u8 (byt z 3)) (.int .u8 (byt z 4)) (.int .u8 (byt z 5)) (.int .u8 (byt z 6)) (.int .u8 (byt z 7))), P6.out.keep (fun b _ hb => oth8 (fun e => hb (.inl e)) rfl (.int .u8 (byt z 0)) (.int .u8 (byt z 1)) (.int .u8 (byt z 2)) (.int .u8 (byt z 3)) (.int .u8 (byt z 4)) (.int .u8 (byt z 5)) (.int .u8 (byt z 6)) (.int .u8 (byt z 7))), bel8 (ext_trans BQ.out Q2.out) (Nat.le_refl _) KLo (.int .u8 (byt z 0)) (.int .u8 (byt z 1)) (.int .u8 (byt z 2)) (.int .u8 (byt z 3)) (.int .u8 (byt z 4)) (.int .u8 (byt z 5)) (.int .u8 (byt z 6)) (.int .u8 (byt z 7))⟩, by simp [intOf]; omega⟩
      · have o1 : (W : Int).tmod 2 = 0 := by rw [Int.tmod_eq_emod_of_nonneg (by omega)]; omega
        have o2 : (W : Int) % 2 = 0 := by omega
        have NE := GB
        have NT3 := NT
        have PV := P2
        have KV := K3
        have BV := B4
        have O3 : Hid (OwnD wr 26 w1.heap.size (some ⟨gl, 0, none⟩) W cl (levX l k)) := by show OwnD _ _ _ _ _ _ _; rw [HLX.out, level_even (by rw [HWL.out]; omega)]; exact O1.out
        have HN1 : Hid (W = (levX l k).length) := O3.out.len.symm
        have HM : Hid (wid n (k + 1) = W / 2) := by show (wid n k + wid n k % 2) / 2 = _; rw [← HW.out]; omega
        have HPL : Hid (pairs (levX l k) (wid n (k + 1)) = level l (k + 1)) := by show _ = _; rw [HLX.out, ← HL.out]; exact pairs_level l k
        obtain ⟨⟨tv, ct⟩, ft⟩ := PV.out.cell (i := 1 + k) (by omega)
        clear K3 P2 O1 B4
        go_upto_region 12 with fail
        clear ct ft
        have PQ : Hid (Part (wr.setCell ⟨T, 1 + k, none⟩ (.slice (some ⟨gl, 0, none⟩) (W) cl)) (fun b => b = Bk) w1.heap.size T (k + 1) l) := PV.out.store (by omega) HN1.out O3.out (.inr rfl) (fun b hb => ⟨.inl hb, fun e => NE (e.symm.trans hb)⟩) rfl
        have OQ : Hid (RdD (wr.setCell ⟨T, 1 + k, none⟩ (.slice (some ⟨gl, 0, none⟩) (W) cl)) (some ⟨gl, 0, none⟩) (W) cl (levX l k)) := (O3.out.keep (Below.heap_setCell _ _ _ _ NT3)).rd
        have KQ : Hid ((wr.setCell ⟨T, 1 + k, none⟩ (.slice (some ⟨gl, 0, none⟩) (W) cl)).heap[Bk]? = some (.cells #[.int .u8 (byt y 0), .int .u8 (byt y 1), .int .u8 (byt y 2), .int .u8 (byt y 3), .int .u8 (byt y 4), .int .u8 (byt y 5), .int .u8 (byt y 6), .int .u8 (byt y 7)] 26 (0, 0))) := (Below.heap_setCell _ _ _ _ NB).trans KV.out
        have BQ : Hid (Below w1.heap.size w1 (wr.setCell ⟨T, 1 + k, none⟩ (.slice (some ⟨gl, 0, none⟩) (W) cl))) := below_set BV.out (Nat.le_refl _) LO
        generalize (wr.setCell ⟨T, 1 + k, none⟩ (.slice (some ⟨gl, 0, none⟩) (W) cl)) = V at *
        have Ks : Bk < V.heap.size := (Array.getElem?_eq_some_iff.1 KQ.out).1
        refine wp_region_schedF (fin := 6) (fun u => Below V.heap.size V u) [(true, 0), (true, 2), (true, 3), (false, 1), (false, 4), (true, 5), (false, 6)] (by kernel_rfl) rfl (by kernel_rfl) (by kernel_rfl) (by kernel_rfl) (fun _ _ d _ _ h => by cases d <;> exact h) (ext_drew V) ?_
        intro J0 hJ0
        iterate 3 (refine schedF_pure (v := ?_) rfl (by rfl) ?_ ?_; rotate_left; (focus (intro u hC; obtain ⟨d0, d1, d2, d3, d4, d5, d6, d7, _, _, _, _, _, _, _, _⟩ := full8 (keepB hC KQ.out); go_simp; try with_reducible rfl)); try go_simp)
        refine schedF_eff rfl ?_
        intro J hJ
        go_wp2_with fail
        refine (above_c _ _ (W) cl (wid n (k + 1)) (levX l k) (Lib.hid (OQ.out.ext (ext_drew V))) (by omega) HM.out).mono ?_
        rintro e v5 ⟨rfl, hO, hb⟩
        have O5 : Hid (OwnD v5 26 V.heap.size (some ⟨V.heap.size, 0, none⟩) (wid n (k + 1)) (wid n (k + 1) + 1) (level l (k + 1))) := by show OwnD _ _ _ _ _ _ _; rw [← HPL.out]; exact hO
        have Q : Hid (Below V.heap.size V v5) := Lib.hid (ext_trans (ext_drew V) hb)
        clear hO hb
        go_wp2_with fail
        refine ⟨fun _ => Q.out, ?_⟩
        refine schedF_eff rfl ?_
        intro J hJ
        go_wp2_with fail
        rw [← show digV y = .agg #[.int .u8 (byt y 0), .int .u8 (byt y 1), .int .u8 (byt y 2), .int .u8 (byt y 3), .int .u8 (byt y 4), .int .u8 (byt y 5), .int .u8 (byt y 6), .int .u8 (byt y 7)] from rfl]
        refine (two_c _ y y ly ly).mono ?_
        obtain ⟨z, hz⟩ : ∃ z, z = twoN y y := ⟨_, rfl⟩
        have HZ : Hid (z = lacks (k + 1)) := by show _ = _; rw [hz, HY.out, lacks_more]
        rw [← hz]
        unfold digV
        rintro e v6 ⟨rfl, hb⟩
        have Q2 : Hid (Below V.heap.size V v6) := Lib.hid (ext_trans Q.out hb)
        replace O5 := Lib.hid (O5.out.ext hb)
        have K6 := Lib.hid (keepB Q2.out KQ.out)
        clear hb hz
        go_wp2_with fail
        refine ⟨fun _ => Q2.out, ?_⟩
        refine schedF_pure (v := ?_) rfl (by rfl) ?_ ?_; rotate_left
        focus (intro u hC; go_simp; try with_reducible rfl)
        try go_simp
        obtain ⟨d0, d1, d2, d3, d4, d5, d6, d7, f0, f1, f2, f3, f4, f5, f6, f7⟩ := full8 K6.out
        refine schedF_eff rfl ?_
        intro J hJ
        go_wp2_with fail
        first | refine hJ0 _ _ ?_ | (refine ⟨by first | exact fun h => absurd rfl h | trivial, ?_⟩; refine schedF_nil (hJ0 _ _ ?_))
        clear hJ0 d0 d1 d2 d3 d4 d5 d6 d7 f0 f1 f2 f3 f4 f5 f6 f7
        go_wp2_with fail
        have P6 : Hid (Part v6 (fun b => b = Bk ∨ b = V.heap.size) w1.heap.size T (k + 1) l) := (PQ.out.other (fun b hb e => by rcases e with e | e; exact e; omega)).ext Q2.out
        have glt6 := O5.out.at_lt
        exact ⟨⟨k + 1, V.heap.size, wid n (k + 1) + 1, z, by omega, by go_num, rfl, by omega, HZ.out, set8 K6.out (.int .u8 (byt z 0)) (.int .u8 (byt z 1)) (.int .u8 (byt z 2)) (.int .u8 (byt z 3)) (.int .u8 (byt z 4)) (.int .u8 (byt z 5)) (.int .u8 (byt z 6)) (.int .u8 (byt z 7)), (O5.out.low BQ.out.size).keep (oth8 (by omega) rfl (.int .u8 (byt z 0)) (.int .u8 (byt z 1)) (.int .u8 (byt z 2)) (.int .u8 (byt z 3)) (.int .u8 (byt z 4)) (.int .u8 (byt z 5)) (.int .u8 (byt z 6)) (.int .u8 (byt z 7))), P6.out.keep (fun b _ hb => oth8 (fun e => hb (.inl e)) rfl (.int .u8 (byt z 0)) (.int .u8 (byt z 1)) (.int .u8 (byt z 2)) (.int .u8 (byt z 3)) (.int .u8 (byt z 4)) (.int .u8 (byt z 5)) (.int .u8 (byt z 6)) (.int .u8 (byt z 7))), bel8 (ext_trans BQ.out Q2.out) (Nat.le_refl _) KLo (.int .u8 (byt z 0)) (.int .u8 (byt z 1)) (.int .u8 (byt z 2)) (.int .u8 (byt z 3)) (.int .u8 (byt z 4)) (.int .u8 (byt z 5)) (.int .u8 (byt z 6)) (.int .u8 (byt z 7))⟩, by simp [intOf]; omega⟩
    · obtain rfl : k = H := by omega
      have hI : ¬ (k : Int) < (k : Int) := by omega
      obtain ⟨⟨tv, ct⟩, ft⟩ := P2.out.cell (i := 1 + k) (by omega)
      have e2 : levX l k = level l k := by have := levX_top l; rw [HE.out] at this; exact this
      have O3 : Hid (OwnD wr 26 w1.heap.size (some ⟨gl, 0, none⟩) (wid n k) cl (levX l k)) := by show OwnD _ _ _ _ _ _ _; rw [e2]; exact O1.out
      have kI : (k : Int) < 13 := by omega
      have kI0 : (0 : Int) ≤ (k : Int) := by omega
      clear O1 e2
      go_wp2_with fail
      refine bodyPost_ret (v := .tuple #[.pointer (some ⟨T, 0, none⟩), .int .i64 0]) (by simp only [results, Tryd.results24]; simp [go_sem]) rfl ⟨T, rfl, ⟨HSm.out, by rw [HL.out]; exact n1, by rw [HL.out]; exact n2, ?_⟩, below_set B4.out (Nat.le_refl _) LO⟩
      rw [HE.out]
      exact P2.out.store (by omega) O3.out.len.symm O3.out (.inr rfl) (fun b hb => hb.elim) rfl
#print axioms new_ok
end Go.Proofs.YtbejjmmopdcjoaaDoor
